/- The contracts of check's walk, of slices.Backward as check calls it, and of check.inTurn. -/
import Derived.Test.YtoplbjanemjebaaHSame
import Derived.Test.YtoplbjanemjebaaCkA
import Derived.Test.YtoplbjanemjebaaHReg
namespace Go.Proofs.Ytoplbjanemjebaa
open Go.RowKit Go.Shelf Go.Proofs.Rw Go.Proofs.Lh Go.Proofs.Rn

attribute [local go_sem] Oper.semAt_some

/-- Whether a bucket may stand behind the tick a. -/
def nextB (a : Nat) (b : Sp) : Bool := decide (b.1 ≤ b.2 ∧ a ≤ b.1 ∧ b.2 ≤ 9223372036854775807)

theorem inTurn_snoc (a : Nat) (xs : List Sp) (b : Sp) : inTurn a (xs ++ [b]) = (inTurn a xs && nextB ((xs.getLast?.map (·.2)).getD a) b) := by
  rw [inTurn_app]
  simp [inTurn, nextB]
theorem last_snoc (xs : List Sp) (b : Sp) (a : Nat) : (((xs ++ [b]).getLast?.map (·.2)).getD a) = b.2 := by simp
/-- The tick behind which the next bucket must stand. -/
def behind (xs : List Sp) : Nat := (xs.getLast?.map (·.2)).getD 0
theorem behind_nil : behind [] = 0 := rfl
theorem behind_snoc (xs : List Sp) (b : Sp) : behind (xs ++ [b]) = b.2 := last_snoc xs b 0
theorem turn_snoc {xs : List Sp} {b : Sp} (h : inTurn 0 xs = true) : inTurn 0 (xs ++ [b]) = nextB (behind xs) b := by
  rw [inTurn_snoc, h, Bool.true_and]; rfl
theorem turn_pre {xs ys : List Sp} (h : inTurn 0 xs = false) : inTurn 0 (xs ++ ys) = false := by rw [inTurn_app, h, Bool.false_and]

theorem wnext_any (a t0 t1 : Nat) (ba : Nat) (w : World) (hb : Boxed w ba 75 (.int .u64 (a : Int))) :
    Calls Try.prog 49 #[.pointer (some ⟨ba, 0, none⟩), .agg #[.int .u64 (t0 : Int), .int .u64 (t1 : Int)]] w fun e w' => e = .returned (.bool (nextB a (t0, t1))) ∧
      w' = (w.setCell ⟨ba, 0, none⟩ (.int .u64 (t1 : Int))).alloc (.cells #[.int .u64 (t0 : Int), .int .u64 (t1 : Int)] 44) := by
  have hc := hb.cell
  have hf := hb.frozen
  have hlt := hb.lt
  by_cases h1 : a ≤ t0
  · by_cases h2 : t0 ≤ t1
    · go_enter Try.func49, Try.ntmps49
      go_wp2
      go_ret
      exact ⟨ret_b (by unfold nextB; rw [decide_eq_decide]; dsimp only; omega), rfl⟩
    · go_enter Try.func49, Try.ntmps49
      go_wp2
      go_ret
      exact ⟨ret_b (by unfold nextB; rw [eq_comm, decide_eq_false_iff_not]; omega), rfl⟩
  · go_enter Try.func49, Try.ntmps49
    go_wp2
    go_ret
    exact ⟨ret_b (by unfold nextB; rw [eq_comm, decide_eq_false_iff_not]; omega), rfl⟩

/-- The round k of 'Backward': the level behind, from the last one on. -/
def PxB (B : Nat) (ls : Lv) (k : Nat) (x : Yl) (W : World) : Prop := k < ls.length ∧ x.i = ls.length - 1 - k ∧ x.n = (lev ls (ls.length - 1 - k)).length ∧ Lies spL W B (.slice x.A x.n x.c) (lev ls (ls.length - 1 - k))
theorem PxB.put {B : Nat} {ls : Lv} {w : World} (hB : B ≤ w.heap.size) (k : Nat) (x : Yl) (W : World) (l : Nat) (o o' : Obj) (hl : w.heap.size ≤ l) (_ : W.heap[l]? = some o) (_ : o.isCells = false) (h : PxB B ls k x W) : PxB B ls k x (W.putObj l o') :=
  ⟨h.1, h.2.1, h.2.2.1, h.2.2.2.keep fun b hb => World.putObj_heap_other (by omega)⟩

/-- Blocks below B, and the block bx, stay as they were. -/
def Kx (B bx : Nat) (W W' : World) : Prop := Kb B W W' ∧ W'.heap[bx]? = W.heap[bx]?
theorem Kx.refl (B bx : Nat) (W : World) : Kx B bx W W := ⟨Kb.refl _ _, rfl⟩
theorem Kx.trans {B bx : Nat} {X Y Z : World} (h : Kx B bx X Y) (k : Kx B bx Y Z) : Kx B bx X Z := ⟨h.1.trans k.1, k.2.trans h.2⟩
theorem Kx.put {B bx : Nat} {w : World} (hB : B ≤ w.heap.size) (hx : bx < w.heap.size) (W : World) (l : Nat) (o o' : Obj) (hl : w.heap.size ≤ l) (h1 : W.heap[l]? = some o) (h2 : o.isCells = false) : Kx B bx W (W.putObj l o') :=
  ⟨Kb.put hB W l o o' hl h1 h2, World.putObj_heap_other (by omega)⟩

theorem back_in (n : Nat) (A : Option Addr) (N c : Nat) (w : World) :
    CallsIn Fence.wide n Try.prog 48 #[.slice A N c] w fun e w' => e = .returned (.func (.func 54) #[] #[.pointer (some ⟨w.heap.size, 0, none⟩)]) ∧
      w' = w.alloc (.cells #[.slice A N c] 22) := by
  refine callsIn_of_wp Try.func48 rfl trivial ?_ rfl
  simp only [Try.ntmps48, List.size_toArray, List.length_cons, List.length_nil, Nat.reduceAdd, Nat.reduceSub, Array.replicate_succ, Array.replicate_zero, List.push_toArray, List.append_toArray, List.nil_append, List.cons_append]
  gi_wp2
  go_ret
  exact ⟨rfl, rfl⟩

set_option maxRecDepth 100000 in
set_option maxHeartbeats 1000000 in
theorem back1_in (n : Nat) (hn : 1 ≤ n) (B bx : Nat) (ls : Lv) (hl : ls.length ≤ 1000000) (w : World) (hB : B ≤ w.heap.size) (A : Option Addr) (c : Nat) (h : Reads w B (.slice A ls.length c) ls)
    (hbx : w.heap[bx]? = some (.cells #[.slice A ls.length c] 22)) :
    SeqN Fence.wide n Try.prog 54 #[.pointer (some ⟨bx, 0, none⟩)] encY (PxB B ls) (Kx B bx) (fun m => m = ls.length) w := by
  intro l J Jx W hW hJ hJx hY hJ0
  have hL := h.below (hW.mono hB)
  have hbb : W.heap[bx]? = some (.cells #[.slice A ls.length c] 22) := (hW.block bx (lt_of hbx)).trans hbx
  have hcell : W.cell? ⟨bx, 0, none⟩ = some (.slice A ls.length c) := by simp [World.cell?, hbb]
  have hbl : bx < W.heap.size := Nat.lt_of_lt_of_le (lt_of hbx) hW.size
  obtain ⟨N, hN⟩ : ∃ N, ls.length = N := ⟨_, rfl⟩
  rw [hN] at hcell hl hL hbb ⊢
  have HN := Lib.hid hN
  have HJ := Lib.hid hJ
  have HY := Lib.hid hY
  have HL := Lib.hid hL
  have HW := Lib.hid hW
  have HBB := Lib.hid hbb
  have hNi : (0 : Int) ≤ (N : Int) := by omega
  clear hJ hJx hY h hL hbx hN hW hbb
  refine callsIn_of_wp Try.func54 rfl trivial ?_ rfl
  simp only [Try.ntmps54, List.size_toArray, List.length_cons, List.length_nil, Nat.reduceAdd, Nat.reduceSub, Array.replicate_succ, Array.replicate_zero, List.push_toArray, List.append_toArray, List.nil_append, List.cons_append]
  gi_wp2
  gi_loopw [3] (fun p wr => ∃ j : Nat, p = .int .i64 ((N : Int) - 1 - (j : Int)) ∧ j ≤ N ∧ J j wr ∧ Kx B bx W wr) (fun p _ => (intOf p + 1).toNat)
  case atStart => exact ⟨0, by go_num, Nat.zero_le _, hJ0, Kx.refl _ _ _⟩
  case round =>
    obtain ⟨j, rfl, hle, hJs, hK⟩ := hrel
    have hsz : B ≤ wr.heap.size := Nat.le_trans hB (Nat.le_trans HW.out.size hK.1.size)
    have hbr := hK.2.trans HBB.out
    have hcr : wr.cell? ⟨bx, 0, none⟩ = some (.slice A N c) := by simp [World.cell?, hbr]
    have hbs2 : bx < wr.heap.size := lt_of hbr
    clear hbr hcell
    by_cases hlt : j < N
    · have hjl : N - 1 - j < ls.length := by rw [HN.out]; omega
      have hLr : Reads wr B (.slice A N c) ls := HL.out.keep hK.1.block
      obtain ⟨b, off, rfl, hb, -, hc⟩ := hLr.at (by omega)
      obtain ⟨Ai, ci, q0, -, -, hLi⟩ := hc (N - 1 - j) hjl
      have hbs : b < wr.heap.size := by omega
      obtain ⟨fn, tmps, assign, body, hy, hR⟩ := HY.out j ⟨N - 1 - j, Ai, ls[N - 1 - j].length, ci⟩ wr hJs ⟨by rw [HN.out]; exact hlt, by rw [HN.out], by rw [HN.out, lev_lt hjl], by rw [HN.out, lev_lt hjl]; exact hLi⟩
      generalize ls[N - 1 - j].length = m at *
      dsimp only [encY] at hy
      have HKK := Lib.hid hK
      obtain ⟨i, hi⟩ : ∃ i, N - 1 - j = i := ⟨_, rfl⟩
      rw [hi] at hy q0
      have hi2 : (N : Int) - 1 - (j : Int) = (i : Int) := by omega
      rw [hi2]
      have hi3 : i < N := by omega
      have hi4 : (i : Int) - 1 = (N : Int) - 1 - ((j + 1 : Nat) : Int) := by omega
      have HI4 := Lib.hid hi4
      clear hc hLi hLr hJ0 hK hi hi4 hjl hi2
      gi_wp2
      refine hR.mono ?_
      rintro e W3 (⟨rfl, hJ3, hk3⟩ | ⟨rfl, hJx3⟩)
      · gi_wp2
        go_roundw
        case rel => exact ⟨j + 1, by rw [← HI4.out], hlt, hJ3, HKK.out.trans hk3⟩
        case measure => simp [intOf] <;> omega
      · gi_wp2
        refine bodyPost_ret (results_none rfl _ _ _) rfl ?_
        exact ⟨⟨_, rfl⟩, .inr ⟨_, hJx3⟩⟩
    · have e : j = N := by omega
      subst e
      gi_wp2
      refine bodyPost_end (results_none rfl _ _ _) rfl ?_
      exact ⟨⟨_, rfl⟩, .inl ⟨j, rfl, hJs⟩⟩

end Go.Proofs.Ytoplbjanemjebaa
