/- The contracts of level's teller, and of the function that it tells. -/
import Derived.Test.YtafcgfhkeceiaaaLevel
namespace Go.Proofs.Ytafcgfhkeceiaaa
open Go.RowKit Go.Proofs.Rw
open Go.Proofs.Lm (el)

theorem box1 {W : World} {b : Nat} {v : Value} {t : TypeId} (h : W.heap[b]? = some (.cells #[v] t)) : W.cell? ⟨b, 0, none⟩ = some v ∧ W.frozen? ⟨b, 0, none⟩ = false := by simp [World.cell?, World.frozen?, h]
theorem box2 {W : World} {b : Nat} {u v : Value} {t : TypeId} (h : W.heap[b]? = some (.cells #[u, v] t)) : W.cell? ⟨b, 0, none⟩ = some u ∧ W.cell? ⟨b, 1, none⟩ = some v ∧ W.frozen? ⟨b, 0, none⟩ = false ∧ W.frozen? ⟨b, 1, none⟩ = false := by simp [World.cell?, World.frozen?, h]
theorem lt_of {W : World} {b : Nat} {o : Obj} (h : W.heap[b]? = some o) : b < W.heap.size := (Array.getElem?_eq_some_iff.1 h).1
theorem set1 {w : World} {b o : Nat} {cs : Array Value} {t : TypeId} (u : Value) (h : w.heap[b]? = some (.cells cs t)) : (w.setCell ⟨b, o, none⟩ u).heap[b]? = some (.cells (cs.setIfInBounds o u) t) := heap_setCell_same w b o cs t u h
theorem grown_set (w : World) (b o : Nat) (u : Value) : w.grownBy (w.setCell ⟨b, o, none⟩ u) (some b) := ⟨rfl, rfl, rfl, by simp [World.setCell], fun k _ hk => Below.heap_setCell _ _ _ _ (fun e => hk (by simp [e]))⟩
theorem grown_trans {a b c : World} {k : Option Nat} (h : a.grownBy b k) (h2 : b.grownBy c k) : a.grownBy c k :=
  ⟨h2.os.trans h.os, h2.tape.trans h.tape, h2.output.trans h.output, Nat.le_trans h.size h2.size, fun i hi hn => (h2.block i (Nat.lt_of_lt_of_le hi h.size) hn).trans (h.block i hi hn)⟩
theorem grown_below {a b : World} {k : Option Nat} (h : Below a.heap.size a b) : a.grownBy b k := ⟨h.os, h.tape, h.output, h.size, fun i hi _ => h.block i hi⟩

theorem teller_any (v : Value) (t : Int) (w : World) :
    Calls Try.prog 46 #[.agg #[v, .int .u64 t]] w fun e w' => e = .returned (.func (.func 51) #[] #[.pointer (some ⟨w.heap.size + 1, 0, none⟩), .pointer (some ⟨w.heap.size, 0, none⟩)]) ∧
      w'.heap.size = w.heap.size + 2 ∧ w'.heap[w.heap.size]? = some (.cells #[v, .int .u64 t] 77) ∧ w'.heap[w.heap.size + 1]? = some (.cells #[.int .i64 0] 3) ∧ Below w.heap.size w w' := by
  go_enter Try.func46, Try.ntmps46
  go_wp2
  go_ret
  refine ⟨rfl, ?_, ?_, ?_, ?_⟩
  · simp
  · rw [Below.heap_alloc _ _ _ (by simp)]
    exact heap_alloc_new w _
  · have := heap_alloc_new (w.alloc (.cells #[v, .int .u64 t] 77)) (.cells #[.int .i64 0] 3)
    simpa using this
  · exact ((Below.refl _ w).alloc (Nat.le_refl _) _).alloc (by simp) _

set_option maxHeartbeats 1000000 in
theorem next_any (w : World) (a b B : Nat) (A : Option Addr) (cap : Nat) (xs : List Sp) (t i : Nat) (hi : i ≤ xs.length) (hl : xs.length ≤ 10000000) (hab : a ≠ b)
    (ha : w.heap[a]? = some (.cells #[.int .i64 (i : Int)] 3)) (hb : w.heap[b]? = some (.cells #[.slice A xs.length cap, .int .u64 (t : Int)] 77)) (hL : Lies spL w B (.slice A xs.length cap) xs) (hB : B ≤ a) :
    Calls Try.prog 51 #[.pointer (some ⟨a, 0, none⟩), .pointer (some ⟨b, 0, none⟩)] w fun e w' => e = .returned (.agg #[.int .u64 ((el xs t i).1 : Int), .int .u64 ((el xs t i).2 : Int)]) ∧
      w'.heap[a]? = some (.cells #[.int .i64 ((min (i + 1) xs.length : Nat) : Int)] 3) ∧ w.grownBy w' (some a) := by
  obtain ⟨a0, a1⟩ := box1 ha
  obtain ⟨b0, b1, b2, b3⟩ := box2 hb
  have la := lt_of ha
  have lb := lt_of hb
  have HA := Lib.hid ha
  have HAB := Lib.hid hab
  have hcl : xs.length ≤ cap := by obtain ⟨_, _, hv, h1, _⟩ := hL; injection hv with _ _ e3; omega
  clear ha hb
  by_cases hlt : i < xs.length
  · obtain ⟨c, off, rfl, hc, _, hcell⟩ := sp_at hL (by omega)
    obtain ⟨q0, q1⟩ := hcell i hlt
    rw [Lm.el_lt hlt]
    have hne : ((i : Int) == (xs.length : Int)) = false := by rw [beq_eq_false_iff_ne]; omega
    have hca : c ≠ a := by omega
    have hlc : c < w.heap.size := by omega
    generalize xs[i] = x at *
    clear hcell hL
    go_enter Try.func51, Try.ntmps51
    go_wp2
    refine bodyPost_ret (v := .agg #[.int .u64 (x.1 : Int), .int .u64 (x.2 : Int)]) (by simp [results, Try.results51, go_sem]) rfl ⟨rfl, ?_, ?_⟩
    · rw [Below.heap_alloc _ _ _ (by simpa using la), set1 _ HA.out, Nat.min_eq_left (by omega)]
      rfl
    · exact grown_trans (grown_set w a 0 _) (World.grownBy_alloc _ _ _)
  · have e : i = xs.length := by omega
    rw [Lm.el_ge (by omega)]
    subst e
    clear hL
    go_enter Try.func51, Try.ntmps51
    go_wp2
    refine bodyPost_ret (v := .agg #[.int .u64 (t : Int), .int .u64 (t : Int)]) (by simp [results, Try.results51, go_sem]) rfl ⟨rfl, ?_, ?_⟩
    · rw [Below.heap_alloc _ _ _ la, Nat.min_eq_right (by omega)]
      exact HA.out
    · exact World.grownBy_alloc _ _ _
end Go.Proofs.Ytafcgfhkeceiaaa
