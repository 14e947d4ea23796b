/- The contracts of the document's own hash (skylightref04). · The contracts of scan's small functions: what asks of an event, and what an event is of. · A region that draws its order, walked by facts (Facts.lean), with a tail whose order is forced, and that may do whatever it does: the tail is walked as a list. -/
import Derived.BigQuiet
import Derived.Test.YthncmjimfkbofaaJ12
import Derived.Test.YthncmjimfkbofaaJ13
import Derived.Test.YthncmjimfkbofaaJ10
import Derived.StillTail
import Derived.Test.YthncmjimfkbofaaJ06
section
/- The contracts of the document's own hash (skylightref04). -/
namespace Go.Proofs.Ythncmjimfkbofaa
open Go.RowKit Go.Proofs.Wm Go.Proofs.Rf

theorem rKey_any (x : Nat) (w : World) :
    Calls Try.prog 51 #[.int .u64 x] w fun e w' => e = .returned (.bool (keyB x)) ∧ w = w' := by
  go_enter Try.func51, Try.ntmps51
  go_wp2
  go_ret
  refine ⟨congrArg (fun z => Ending.returned (.bool z)) ?_, rfl⟩
  unfold keyB
  rw [decide_eq_decide]
  omega

set_option maxRecDepth 100000 in
theorem hMay_any (a b : Nat) (ha : a < 18446744073709551616) (hb : b < 18446744073709551616) (w : World) :
    Calls Try.prog 50 #[.agg #[.int .u64 a, .int .u64 b]] w fun e w' => e = .returned (.bool (may a b)) ∧ Below w.heap.size w w' := by
  obtain ⟨e1, h1⟩ : ∃ e, decide ((1 : Int) ≤ a) = e := ⟨_, rfl⟩
  obtain ⟨e2, h2⟩ : ∃ e, decide ((a : Int) < 2305843009213693951) = e := ⟨_, rfl⟩
  obtain ⟨e3, h3⟩ : ∃ e, decide ((b : Int) < 2305843009213693951) = e := ⟨_, rfl⟩
  have hm : may a b = (e1 && e2 && e3) := by
    subst h1 h2 h3
    rw [Bool.eq_iff_iff, may_iff]
    simp
    omega
  have HM := Lib.hid hm
  clear hm ha hb
  cases e1 <;> cases e2 <;> cases e3
  all_goals
    go_enter Try.func50, Try.ntmps50
    go_wp2
    go_ret
    exact ⟨congrArg (fun z => Ending.returned (.bool z)) HM.out.symm, below_rowW _ _⟩

theorem rest_any (a b x : Nat) (ha : a < 18446744073709551616) (hb : b < 18446744073709551616) (hx : x < 18446744073709551616) (w : World) :
    Calls Try.prog 52 #[.agg #[.int .u64 a, .int .u64 b], .int .u64 x] w fun e w' => e = n64 (addM (mulM a x) b) ∧ Below w.heap.size w w' := by
  have m3 := fun W => rMulMod_any a x ha hx W
  have m4 := fun W => rAddMod_any (mulM a x) b (lt64 (mulM_lt _ _)) hb W
  obtain ⟨p, hp⟩ : ∃ p, mulM a x = p := ⟨_, rfl⟩
  rw [hp] at m3 m4 ⊢
  obtain ⟨q, hqe⟩ : ∃ q, addM p b = q := ⟨_, rfl⟩
  rw [hqe] at m4 ⊢
  have M3 := Lib.hid m3
  have M4 := Lib.hid m4
  clear m3 m4 hp hqe
  go_enter Try.func52, Try.ntmps52
  go_upto_region 1 with (fail)
  go_quiet ((first
    | (go_at_call 72; exact Calls.quiet_of_same ((M3.out _).mono fun _ _ ⟨h1, h2⟩ => ⟨h1, h2.symm⟩))
    | (go_at_call 71; exact Calls.quiet_of_same ((M4.out _).mono fun _ _ ⟨h1, h2⟩ => ⟨h1, h2.symm⟩))))
  go_wp2
  go_ret
  exact ⟨rfl, Grows.drewN (below_rowW _ _) _⟩

set_option maxRecDepth 100000 in
set_option maxHeartbeats 1000000 in
theorem rColumn_any (a b x : Nat) (ha : a < 18446744073709551616) (hb : b < 18446744073709551616) (hx : x < 18446744073709551616) (k : Int) (k0 : -9223372036854775808 ≤ k) (k1 : k ≤ 9223372036854775807) (w : World) :
    Calls Try.prog 26 #[.agg #[.int .u64 a, .int .u64 b], .int .u64 x, .int .i64 k] w fun e w' => e = .returned (.int .i64 (col a b x k)) ∧ Below w.heap.size w w' := by
  obtain ⟨m, hm⟩ : ∃ m, may a b = m := ⟨_, rfl⟩
  obtain ⟨y, hy⟩ : ∃ y, keyB x = y := ⟨_, rfl⟩
  have m1 := fun W => hMay_any a b ha hb W
  have m2 := fun W => rKey_any x W
  have m3 := fun W => rest_any a b x ha hb hx W
  rw [hm] at m1
  rw [hy] at m2
  have hc : col a b x k = if k < 1 then 0 else if m = false then 0 else if y = false then 0 else ((addM (mulM a x) b % k.toNat : Nat) : Int) := by unfold col; rw [hm, hy]
  have hq := addM_lt (mulM a x) b
  obtain ⟨q, hqe⟩ : ∃ q, addM (mulM a x) b = q := ⟨_, rfl⟩
  rw [hqe] at m3 hc hq
  unfold pr at hq
  have M1 := Lib.hid m1
  have M2 := Lib.hid m2
  have M3 := Lib.hid m3
  rw [hc]
  clear m1 m2 m3 hm hy hqe hc
  have hB := below_rowW w (.cells #[.int .u64 a, .int .u64 b] 47)
  by_cases h1 : k < 1
  · rw [if_pos h1]
    go_enter Try.func26, Try.ntmps26
    go_wp2
    go_ret
    exact ⟨rfl, below_rowW _ _⟩
  · rw [if_neg h1]
    have hv : (q : Int) % k = ((q % k.toNat : Nat) : Int) := by
      rw [Int.natCast_emod, Int.toNat_of_nonneg (by omega)]
    have hw : -9223372036854775808 ≤ (q : Int) % k ∧ (q : Int) % k ≤ 9223372036854775807 := by
      have h2 := Int.emod_nonneg (q : Int) (show k ≠ 0 by omega)
      have h3 := Int.emod_lt_of_pos (q : Int) (show 0 < k by omega)
      generalize (q : Int) % k = z at *
      omega
    have HV := Lib.hid hv
    have HW := Lib.hid hw
    clear hv hw
    cases m
    · rw [if_pos rfl]
      go_enter Try.func26, Try.ntmps26
      go_wp2_with (first
        | (go_at_call 50; refine (M1.out _).mono ?_; rintro e wn ⟨rfl, hn⟩; obtain ⟨c0, c1⟩ := box_cells hn; replace hB := hB.trans (hn.mono hB.size); clear hn)
        | (go_at_call 51; refine (M2.out _).mono ?_; rintro e wm ⟨rfl, rfl⟩)
        | (go_at_call 52; refine (M3.out _).mono ?_; rintro e wr ⟨rfl, hr⟩; replace hB := hB.trans (hr.mono hB.size); clear hr; dsimp only [n64]))
      go_ret
      exact ⟨rfl, hB⟩
    · rw [if_neg (by decide)]
      cases y
      · rw [if_pos rfl]
        go_enter Try.func26, Try.ntmps26
        go_wp2_with (first
        | (go_at_call 50; refine (M1.out _).mono ?_; rintro e wn ⟨rfl, hn⟩; obtain ⟨c0, c1⟩ := box_cells hn; replace hB := hB.trans (hn.mono hB.size); clear hn)
        | (go_at_call 51; refine (M2.out _).mono ?_; rintro e wm ⟨rfl, rfl⟩)
        | (go_at_call 52; refine (M3.out _).mono ?_; rintro e wr ⟨rfl, hr⟩; replace hB := hB.trans (hr.mono hB.size); clear hr; dsimp only [n64]))
        go_ret
        exact ⟨rfl, hB⟩
      · rw [if_neg (by decide)]
        go_enter Try.func26, Try.ntmps26
        go_wp2_with (first
        | (go_at_call 50; refine (M1.out _).mono ?_; rintro e wn ⟨rfl, hn⟩; obtain ⟨c0, c1⟩ := box_cells hn; replace hB := hB.trans (hn.mono hB.size); clear hn)
        | (go_at_call 51; refine (M2.out _).mono ?_; rintro e wm ⟨rfl, rfl⟩)
        | (go_at_call 52; refine (M3.out _).mono ?_; rintro e wr ⟨rfl, hr⟩; replace hB := hB.trans (hr.mono hB.size); clear hr; dsimp only [n64]))
        go_ret
        exact ⟨congrArg (fun z => Ending.returned (.int .i64 z)) ((IntWalk.wrap64_in _ HW.out).trans HV.out), hB⟩

theorem sq_even (r m j : Nat) : r * m ^ (2 * j) % 2305843009213693951 = r * (mulM m m) ^ j % 2305843009213693951 := by
  unfold mulM pr
  rw [Nat.pow_mul, Nat.pow_two, Nat.mul_mod r ((m * m % 2305843009213693951) ^ j), ← Nat.pow_mod, ← Nat.mul_mod]
theorem sq_odd (r m j : Nat) : r * m ^ (2 * j + 1) % 2305843009213693951 = mulM r m * (mulM m m) ^ j % 2305843009213693951 := by
  rw [Nat.pow_succ, Nat.mul_comm (m ^ (2 * j)), ← Nat.mul_assoc, sq_even]
  show _ = (r * m % 2305843009213693951) * (mulM m m) ^ j % 2305843009213693951
  rw [Nat.mod_mul_mod]

end Go.Proofs.Ythncmjimfkbofaa
end
section
/- The contracts of scan's small functions: what asks of an event, and what an event is of. -/
namespace Go.Proofs.Ythncmjimfkbofaa
set_option linter.unusedVariables false
open Go.RowKit Go.Shelf Go.Proofs.Rw Go.Proofs.Lh Go.Proofs.Bu Go.Proofs.Sc Go.Proofs.Wm

theorem lt_of_cell {W : World} {b i : Nat} {v : Value} (h : W.cell? ⟨b, i, none⟩ = some v) : b < W.heap.size := by
  rcases Nat.lt_or_ge b W.heap.size with h1 | h1
  · exact h1
  · have : W.heap[b]? = none := Array.getElem?_eq_none h1
    simp [World.cell?, this] at h
/-- An event as a value. -/
abbrev evS (e : Ev) : Value := .agg #[.int .u64 (e.1 : Int), .int .u64 (e.2.1 : Int), .int .u64 (e.2.2 : Int)]
/-- Whether an event is of the ticks f to t. -/
def ofT (f t : Nat) (e : Ev) : Bool := decide (f ≤ e.1) && decide (e.1 ≤ t)
theorem keyOf_any (e : Ev) (w : World) :
    Calls Try.prog 41 #[evS e] w fun x w' => x = .returned (.int .u64 (e.2.1 : Int)) ∧ Below w.heap.size w w' := by
  obtain ⟨a, b, c⟩ := e
  try dsimp only
  go_enter Try.func41, Try.ntmps41
  go_wp2
  go_ret
  exact ⟨rfl, (Below.refl _ w).alloc (Nat.le_refl _) _⟩
theorem askA_any (e : Ev) (t s bt bs : Nat) (w : World) (ht : t < 18446744073709551616) (c1 : w.cell? ⟨bt, 0, none⟩ = some (.int .u64 (t : Int))) (c2 : w.cell? ⟨bs, 0, none⟩ = some (.int .u64 (s : Int))) :
    Calls Try.prog 63 #[evS e, .pointer (some ⟨bt, 0, none⟩), .pointer (some ⟨bs, 0, none⟩)] w fun x w' => x = .returned (.bool (inB t s e)) ∧ Below w.heap.size w w' := by
  obtain ⟨a, b, c⟩ := e
  try dsimp only
  have l1 : bt < w.heap.size := lt_of_cell c1
  have l2 : bs < w.heap.size := lt_of_cell c2
  obtain ⟨W1, hW1⟩ : ∃ W, w.alloc (.cells #[.int .u64 (a : Int), .int .u64 (b : Int), .int .u64 (c : Int)] 41) = W := ⟨_, rfl⟩
  have HW1 := Lib.hid hW1
  have p1 : W1.heap[w.heap.size]? = some (.cells #[.int .u64 (a : Int), .int .u64 (b : Int), .int .u64 (c : Int)] 41) := by rw [← hW1]; exact heap_alloc_new w _
  have b1 : Below w.heap.size w W1 := by rw [← hW1]; exact (Below.refl _ w).alloc (Nat.le_refl _) _
  have d1 := (b1.cell (p := ⟨bt, 0, none⟩) l1).trans c1
  have d2 := (b1.cell (p := ⟨bs, 0, none⟩) l2).trans c2
  have q0 : W1.cell? ⟨w.heap.size, 0, none⟩ = some (.int .u64 (a : Int)) := by simp [World.cell?, p1]
  have HB := Lib.hid b1
  clear p1 hW1 b1 c1 c2
  by_cases h1 : a ≤ t
  · obtain ⟨d, hd⟩ : ∃ d : Nat, (t : Int) - (a : Int) = (d : Int) := ⟨t - a, by omega⟩
    have b1 : (d : Int) ≤ 18446744073709551615 := by omega
    have e : inB t s (a, b, c) = decide (d < s) := by unfold inB; rw [decide_eq_decide]; dsimp only; omega
    rw [e]
    clear e
    obtain ⟨z, hz⟩ : ∃ z, decide (d < s) = z := ⟨_, rfl⟩
    rw [hz]
    cases z
    all_goals
      go_enter Try.func63, Try.ntmps63
      go_upto_region 1 with (fail)
      rw [HW1.out]
      go_wp2
      go_ret
      exact ⟨rfl, HB.out⟩
  · have e : inB t s (a, b, c) = false := by unfold inB; rw [decide_eq_false_iff_not]; dsimp only; omega
    rw [e]
    clear e
    go_enter Try.func63, Try.ntmps63
    go_upto_region 1 with (fail)
    rw [HW1.out]
    go_wp2
    go_ret
    exact ⟨rfl, HB.out⟩
theorem askB_any (e : Ev) (f t bf bt : Nat) (w : World) (c1 : w.cell? ⟨bf, 0, none⟩ = some (.int .u64 (f : Int))) (c2 : w.cell? ⟨bt, 0, none⟩ = some (.int .u64 (t : Int))) :
    Calls Try.prog 46 #[evS e, .pointer (some ⟨bf, 0, none⟩), .pointer (some ⟨bt, 0, none⟩)] w fun x w' => x = .returned (.bool (ofT f t e)) ∧ Below w.heap.size w w' := by
  obtain ⟨a, b, c⟩ := e
  try dsimp only
  have l1 : bf < w.heap.size := lt_of_cell c1
  have l2 : bt < w.heap.size := lt_of_cell c2
  obtain ⟨W1, hW1⟩ : ∃ W, w.alloc (.cells #[.int .u64 (a : Int), .int .u64 (b : Int), .int .u64 (c : Int)] 41) = W := ⟨_, rfl⟩
  have HW1 := Lib.hid hW1
  have p1 : W1.heap[w.heap.size]? = some (.cells #[.int .u64 (a : Int), .int .u64 (b : Int), .int .u64 (c : Int)] 41) := by rw [← hW1]; exact heap_alloc_new w _
  have b1 : Below w.heap.size w W1 := by rw [← hW1]; exact (Below.refl _ w).alloc (Nat.le_refl _) _
  have d1 := (b1.cell (p := ⟨bf, 0, none⟩) l1).trans c1
  have d2 := (b1.cell (p := ⟨bt, 0, none⟩) l2).trans c2
  have q0 : W1.cell? ⟨w.heap.size, 0, none⟩ = some (.int .u64 (a : Int)) := by simp [World.cell?, p1]
  have HB := Lib.hid b1
  clear p1 hW1 b1 c1 c2
  unfold ofT
  try dsimp only
  by_cases h1 : f ≤ a
  · rw [decide_eq_true h1, Bool.true_and]
    obtain ⟨z, hz⟩ : ∃ z, decide (a ≤ t) = z := ⟨_, rfl⟩
    rw [hz]
    cases z
    all_goals
      go_enter Try.func46, Try.ntmps46
      go_upto_region 1 with (fail)
      rw [HW1.out]
      go_wp2
      go_ret
      exact ⟨rfl, HB.out⟩
  · rw [decide_eq_false h1, Bool.false_and]
    go_enter Try.func46, Try.ntmps46
    go_upto_region 1 with (fail)
    rw [HW1.out]
    go_wp2
    go_ret
    exact ⟨rfl, HB.out⟩
theorem colOf_any (e : Ev) (he : e.2.1 < 18446744073709551616) (a b bs bk : Nat) (k : Int) (ha : a < 18446744073709551616) (hb : b < 18446744073709551616) (k0 : -9223372036854775808 ≤ k) (k1 : k ≤ 9223372036854775807) (w : World)
    (c1 : w.cell? ⟨bs, 0, none⟩ = some (.int .u64 (a : Int))) (c2 : w.cell? ⟨bs, 1, none⟩ = some (.int .u64 (b : Int))) (c3 : w.cell? ⟨bk, 0, none⟩ = some (.int .i64 k)) :
    Calls Try.prog 44 #[evS e, .pointer (some ⟨bs, 0, none⟩), .pointer (some ⟨bk, 0, none⟩)] w fun x w' => x = .returned (.int .i64 (col a b e.2.1 k)) ∧ Below w.heap.size w w' := by
  obtain ⟨t, x, c⟩ := e
  dsimp only at he ⊢
  have l1 : bs < w.heap.size := lt_of_cell c1
  have l2 : bk < w.heap.size := lt_of_cell c3
  obtain ⟨W1, hW1⟩ : ∃ W, w.alloc (.cells #[.int .u64 (t : Int), .int .u64 (x : Int), .int .u64 (c : Int)] 41) = W := ⟨_, rfl⟩
  have HW1 := Lib.hid hW1
  have p1 : W1.heap[w.heap.size]? = some (.cells #[.int .u64 (t : Int), .int .u64 (x : Int), .int .u64 (c : Int)] 41) := by rw [← hW1]; exact heap_alloc_new w _
  have b1 : Below w.heap.size w W1 := by rw [← hW1]; exact (Below.refl _ w).alloc (Nat.le_refl _) _
  have d1 := (b1.cell (p := ⟨bs, 0, none⟩) l1).trans c1
  have d2 := (b1.cell (p := ⟨bs, 1, none⟩) l1).trans c2
  have d3 := (b1.cell (p := ⟨bk, 0, none⟩) l2).trans c3
  have q0 : W1.cell? ⟨w.heap.size, 1, none⟩ = some (.int .u64 (x : Int)) := by simp [World.cell?, p1]
  have HC := Lib.hid (column_any a b x ha hb he k k0 k1 W1)
  have HB := Lib.hid b1
  clear p1 hW1 b1 c1 c2 c3
  go_enter Try.func44, Try.ntmps44
  go_upto_region 1 with (fail)
  rw [HW1.out]
  go_wp2_with (go_at_call 45; (with_reducible refine HC.out.mono ?_); rintro r w2 ⟨rfl, hb2⟩; have HB2 := Lib.hid (thn HB.out hb2); clear hb2)
  go_ret
  exact ⟨rfl, HB2.out⟩
end Go.Proofs.Ythncmjimfkbofaa
end
section
/-
  A region that draws its order, walked by facts (Facts.lean), with a tail whose order is forced, and that may do whatever it does: the tail is walked as a list.
-/
namespace Go.Proofs.Rf
open Go Go.RowKit

theorem region_tail {P : Program} {Q : Exit → Act → World → Prop} {id : Nat} {a : Act} {w : World} {l : List Oper} {fr : (Nat → Value) → Act} (n : Nat) (ds : List Nat) (F : Nat → Value → World → Prop)
    (hm : P.follows .mixedOrders = true) (hB : headB l.toArray 0 (0 + n) a.tmps.size = true) (hds : ((List.range n).all fun i => dstOf l.toArray (0 + i) == ds.getD i 0) = true)
    (hseq : Region.seqB .any l.toArray (l.drop (0 + n)).length (0 + n) (firstN l.toArray.size (0 + n)) = true)
    (hfr : ∀ us, putL ds us 0 n a = fr us)
    (hF : ∀ i v W W', Grows W W' → F i v W → F i v W')
    (hop : ∀ i, i < n → ∀ (us : Nat → Value) (W : World), Grows w W → (∀ j, j < n → waits l.toArray i j = true → F j (us j) W) →
      wpOp P l.toArray Q i (fun a' W' => ∃ v, a' = (fr us).put (some (dstOf l.toArray i)) v ∧ Grows W W' ∧ F i v W') (fr us) W)
    (htail : ∀ (us : Nat → Value) (W : World), Grows w W → (∀ i, i < n → F i (us i) W) → wpList P l.toArray Q (l.drop n) (fr us) W) :
    (Code.region id l.toArray true).wp P Q a w := by
  refine wp_region_any hm ?_
  have hrep : Array.replicate l.toArray.size false = firstN l.toArray.size 0 := by
    apply Array.ext <;> simp [firstN]
  rw [hrep]
  have he : ∀ us, putAll l.toArray us 0 n a = fr us := fun us => by
    rw [← hfr]
    refine putL_eq n fun i hi => ?_
    have := List.all_eq_true.1 hds i (List.mem_range.2 hi)
    exact eq_of_beq this
  have hd : ∀ {W : World}, Grows w.drew W → Grows w W := fun h => ⟨h.os, h.tape, h.output, h.size, h.block⟩
  have := wpAny_facts (P := P) (Q := Q) (ops := l.toArray) (a0 := a) (w0 := w.drew) (n := n) 0 Grows (Grows.refl _) (fun h k => h.trans k) F hF hB ?_ (fun us W hG hf => ?_)
  · simpa using this
  · intro i hsi hi us W hG hf
    rw [he]
    exact hop i (by omega) us W (hd hG) (fun j hj hw => hf j (by omega) (by omega) hw)
  · have h := htail us W (hd hG) (fun i hi => hf i (by omega) (by omega))
    have e : l.toArray.size - (0 + n) = (l.drop (0 + n)).length := by simp
    rw [e, he]
    refine wpAny_of_seq (l.drop (0 + n)) (0 + n) _ _ _ (fun j => by simp [List.getElem?_drop]) hseq ?_
    rw [Nat.zero_add]
    exact h

end Go.Proofs.Rf
end
