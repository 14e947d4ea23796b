/- The contracts of level's small functions. · The contracts of level's teller, and of the function that it tells. · The contracts of slices.Grow and slices.Concat, as level calls them. · The contract of level.Push. -/
import Derived.WalkKit
import Derived.IntWalk
import Derived.Deep.CutBlock
import Derived.Laws.StructEq
import Derived.KernelRfl
import Derived.Test.YthncmjimfkbofaaProg
import Derived.Test.YthncmjimfkbofaaJ01
import Derived.Test.YthncmjimfkbofaaJ03
import Derived.Lib.AppendZeros
section
/- The contracts of level's small functions. -/
namespace Go.Proofs.Ythncmjimfkbofaa
open Go.RowKit Go.Proofs.Rw

theorem ret_i {k : IntKind} {a b : Int} (h : a = b) : Ending.returned (.int k a) = .returned (.int k b) := by rw [h]

/-- How many there must be. -/
def leastI (k i : Int) : Int := if i = 0 then max k 0 else (max k 0 + 1) / 2

theorem leastI_le (k i : Int) (hk : k ≤ 9223372036854775806) : 0 ≤ leastI k i ∧ leastI k i ≤ 9223372036854775806 := by
  unfold leastI
  split <;> omega
/-- The two results of 'settle'. -/
def tw (a b : Nat) : Ending := .returned (.tuple #[.int .u64 (a : Int), .int .u64 (b : Int)])
theorem tw_mk {x y : Int} {a b : Nat} (h1 : x = a) (h2 : y = b) : Ending.returned (.tuple #[.int .u64 x, .int .u64 y]) = tw a b := by rw [h1, h2]; rfl

end Go.Proofs.Ythncmjimfkbofaa
end
section
/- The contracts of level's teller, and of the function that it tells. -/
namespace Go.Proofs.Ythncmjimfkbofaa
open Go.RowKit Go.Proofs.Rw
open Go.Proofs.Lm (el)

theorem box1 {W : World} {b : Nat} {v : Value} {t : TypeId} (h : W.heap[b]? = some (.cells #[v] t)) : W.cell? ⟨b, 0, none⟩ = some v ∧ W.frozen? ⟨b, 0, none⟩ = false := by simp [World.cell?, World.frozen?, h]
theorem box2 {W : World} {b : Nat} {u v : Value} {t : TypeId} (h : W.heap[b]? = some (.cells #[u, v] t)) : W.cell? ⟨b, 0, none⟩ = some u ∧ W.cell? ⟨b, 1, none⟩ = some v ∧ W.frozen? ⟨b, 0, none⟩ = false ∧ W.frozen? ⟨b, 1, none⟩ = false := by simp [World.cell?, World.frozen?, h]
theorem lt_of {W : World} {b : Nat} {o : Obj} (h : W.heap[b]? = some o) : b < W.heap.size := (Array.getElem?_eq_some_iff.1 h).1
theorem set1 {w : World} {b o : Nat} {cs : Array Value} {t : TypeId} (u : Value) (h : w.heap[b]? = some (.cells cs t)) : (w.setCell ⟨b, o, none⟩ u).heap[b]? = some (.cells (cs.setIfInBounds o u) t) := heap_setCell_same w b o cs t u h
theorem grown_set (w : World) (b o : Nat) (u : Value) : w.grownBy (w.setCell ⟨b, o, none⟩ u) (some b) := ⟨rfl, rfl, rfl, by simp [World.setCell], fun k _ hk => Below.heap_setCell _ _ _ _ (fun e => hk (by simp [e]))⟩
theorem grown_trans {a b c : World} {k : Option Nat} (h : a.grownBy b k) (h2 : b.grownBy c k) : a.grownBy c k :=
  ⟨h2.os.trans h.os, h2.tape.trans h.tape, h2.output.trans h.output, Nat.le_trans h.size h2.size, fun i hi hn => (h2.block i (Nat.lt_of_lt_of_le hi h.size) hn).trans (h.block i hi hn)⟩
theorem grown_below {a b : World} {k : Option Nat} (h : Below a.heap.size a b) : a.grownBy b k := ⟨h.os, h.tape, h.output, h.size, fun i hi _ => h.block i hi⟩

end Go.Proofs.Ythncmjimfkbofaa
end
section
/- The contracts of slices.Grow and slices.Concat, as level calls them. -/
namespace Go.Proofs.Ythncmjimfkbofaa
open Go.RowKit Go.Proofs.Rw

end Go.Proofs.Ythncmjimfkbofaa
end
section
/- The contract of level.Push. -/
namespace Go.Proofs.Ythncmjimfkbofaa
open Go.RowKit Go.Proofs.Rw
open Go.Proofs.Lm (el two pairs wentN stayN leftN went stay)

/-- A row of n, of which k are there. -/
def rowTo (f : Nat → Sp) (n k : Nat) : List Sp := (List.range n).map fun j => if j < k then f j else (0, 0)
theorem rowTo_len (f : Nat → Sp) (n k : Nat) : (rowTo f n k).length = n := by simp [rowTo]
theorem rowTo_all (f : Nat → Sp) (n : Nat) : rowTo f n n = (List.range n).map f := by
  unfold rowTo
  refine List.map_congr_left fun j hj => ?_
  rw [if_pos (List.mem_range.1 hj)]
theorem rowTo_set (f : Nat → Sp) (n k : Nat) : rowTo f n (k + 1) = (rowTo f n k).set k (f k) := by
  apply List.ext_getElem
  · simp [rowTo]
  · intro i h1 h2
    simp only [rowTo, List.getElem_map, List.getElem_range, List.getElem_set]
    by_cases h : k = i
    · subst h; simp
    · rw [if_neg h]
      by_cases h' : i < k
      · rw [if_pos (by omega), if_pos h']
      · rw [if_neg (by omega), if_neg h']
theorem cells_set (xs : List Sp) (k : Nat) (a b : Nat) : spL.cells (xs.set k (a, b)) = ((spL.cells xs).set (k * 2) (.int .u64 a)).set (k * 2 + 1) (.int .u64 b) := by
  induction xs generalizing k with
  | nil => simp [Lay.cells]
  | cons x xs ih =>
    cases k with
    | zero => simp [Lay.cells, spL]
    | succ k =>
      rw [List.set_cons_succ, cells_cons, cells_cons, ih]
      show spL.enc x ++ _ = _
      rw [show spL.enc x = [.int .u64 x.1, .int .u64 x.2] from rfl, show (k + 1) * 2 = k * 2 + 1 + 1 by omega, show k * 2 + 1 + 1 + 1 = (k * 2 + 1) + 1 + 1 by omega]
      rfl
theorem made_zero (n : Nat) (f : Nat → Sp) : (madeCells (Value.agg #[.int .u64 0, .int .u64 0]).cells (n * 2)).toList = spL.cells (rowTo f n 0) := by
  apply List.ext_getElem?
  intro j
  by_cases hj : j < n * 2
  · obtain ⟨i, k, hk, rfl⟩ : ∃ i k, k < 2 ∧ j = i * 2 + k := ⟨j / 2, j % 2, by omega, by omega⟩
    have e := cells_at spL (rowTo f n 0) i k (by rw [rowTo_len]; omega) hk
    rw [show spL.size = 2 from rfl] at e
    rw [e]
    have : (rowTo f n 0)[i]'(by rw [rowTo_len]; omega) = (0, 0) := by simp [rowTo]
    rw [this]
    rcases k with _ | _ | k
    · simp [madeCells, Value.cells, spL, show i * 2 < n * 2 by omega]
    · simp [madeCells, Value.cells, spL, hj, show (i * 2 + 1) % 2 = 1 by omega]
    · omega
  · rw [List.getElem?_eq_none (by simp [madeCells]; omega), List.getElem?_eq_none (by rw [cells_len, rowTo_len]; show n * 2 ≤ j; omega)]

theorem el_min (xs : List Sp) (t j : Nat) : el xs t (min j xs.length) = el xs t j := by
  rcases Nat.lt_or_ge j xs.length with h | h
  · rw [Nat.min_eq_left (by omega)]
  · rw [Nat.min_eq_right h, Lm.el_ge (Nat.le_refl _), Lm.el_ge h]
/-- For how many there is room. -/
def roomOf (most : Int) : Nat := (max most 1).toNat

end Go.Proofs.Ythncmjimfkbofaa
end
