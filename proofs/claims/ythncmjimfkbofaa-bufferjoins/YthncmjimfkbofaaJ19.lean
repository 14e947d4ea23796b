/- The contracts of Same on buffers, the program's and the document's. · The contracts of Weight, the program's and the document's; of the law's made and same. · The contracts of May on buffers, the program's and the document's. · The contracts of May on buffers. -/
import Derived.Test.YthncmjimfkbofaaJ18
import Derived.BigQuiet
section
/- The contracts of Same on buffers, the program's and the document's. -/
namespace Go.Proofs.Ythncmjimfkbofaa
set_option linter.unusedVariables false
open Go.RowKit Go.Shelf Go.Proofs.Rw Go.Proofs.Lh Go.Proofs.Bu

def bufEqB (a0 a1 a2 a3 b0 b1 b2 b3 : Int) (xs ys : List Ev) : Bool := (a0 == b0) && ((a1 == b1) && ((a2 == b2) && ((a3 == b3) && decide (xs = ys))))

set_option maxRecDepth 100000 in
set_option maxHeartbeats 4000000 in
theorem rsm_any (a0 a1 a2 a3 b0 b1 b2 b3 : Int) (xs ys : List Ev) (hl : xs.length ≤ 100000) (w : World) (A1 A2 : Option Addr) (c1 c2 : Nat) (h1 : Lies evL w w.heap.size (.slice A1 xs.length c1) xs) (h2 : Lies evL w w.heap.size (.slice A2 ys.length c2) ys) :
    Calls Try.prog 38 #[bval a0 a1 a2 a3 (.slice A1 xs.length c1), bval b0 b1 b2 b3 (.slice A2 ys.length c2)] w fun e w' => e = .returned (.bool (bufEqB a0 a1 a2 a3 b0 b1 b2 b3 xs ys)) ∧ Below w.heap.size w w' := by
  obtain ⟨W0, hW0, hsz, p0, p1, b0'⟩ := heap_two w (.cells #[.int .u64 a0, .int .i64 a1, .int .u64 a2, .int .u64 a3, .slice A1 xs.length c1] 29) (.cells #[.int .u64 b0, .int .i64 b1, .int .u64 b2, .int .u64 b3, .slice A2 ys.length c2] 29)
  have hq := revs_any xs ys (by omega) W0 W0.heap.size (Nat.le_refl _) A1 A2 c1 c2 (h1.grow b0') (h2.grow b0')
  obtain ⟨N, hN⟩ : ∃ N, xs.length = N := ⟨_, rfl⟩
  obtain ⟨M, hM⟩ : ∃ N, ys.length = N := ⟨_, rfl⟩
  rw [hN, hM] at hq hW0
  rw [hN] at p0
  rw [hM] at p1
  rw [hN, hM]
  obtain ⟨⟨x0, x1, x2, x3, x4⟩, -⟩ := box5 p0
  obtain ⟨⟨y0, y1, y2, y3, y4⟩, -⟩ := box5 p1
  have l0 := lt_of p0
  have l1 := lt_of p1
  obtain ⟨q, hqq⟩ : ∃ q, decide (xs = ys) = q := ⟨_, rfl⟩
  rw [hqq] at hq
  have HQ := Lib.hid hq
  have HW0 := Lib.hid hW0
  have B0 := Lib.hid b0'
  obtain ⟨r, hr⟩ : ∃ r, bufEqB a0 a1 a2 a3 b0 b1 b2 b3 xs ys = r := ⟨_, rfl⟩
  rw [hr]
  unfold bufEqB at hr
  rw [hqq] at hr
  have HR := Lib.hid hr
  clear hq hW0 b0' p0 p1 h1 h2 hN hM hqq hl hsz hr
  obtain ⟨e0, d0⟩ : ∃ e, (a0 == b0) = e := ⟨_, rfl⟩
  obtain ⟨e1, d1⟩ : ∃ e, (a1 == b1) = e := ⟨_, rfl⟩
  obtain ⟨e2, d2⟩ : ∃ e, (a2 == b2) = e := ⟨_, rfl⟩
  obtain ⟨e3, d3⟩ : ∃ e, (a3 == b3) = e := ⟨_, rfl⟩
  have hr := HR.out
  rw [d0, d1, d2, d3] at hr
  have HR := Lib.hid hr
  clear hr
  go_enter Try.func38, Try.ntmps38
  go_upto_region 1 with (fail)
  rw [← HW0.out]
  cases e0
  · go_wp2
    go_ret
    refine ⟨ret_b ?_, B0.out⟩
    rw [← HR.out]
    simp
  ·
    cases e1
    · go_wp2
      go_ret
      refine ⟨ret_b ?_, B0.out⟩
      rw [← HR.out]
      simp
    ·
      cases e2
      · go_wp2
        go_ret
        refine ⟨ret_b ?_, B0.out⟩
        rw [← HR.out]
        simp
      ·
        cases e3
        · go_wp2
          go_ret
          refine ⟨ret_b ?_, B0.out⟩
          rw [← HR.out]
          simp
        ·
          go_wp2_with (go_at_call 17; (with_reducible refine HQ.out.mono ?_); rintro r w1 ⟨rfl, hb⟩; have B1 := Lib.hid (thn B0.out hb); clear hb)
          go_ret
          refine ⟨ret_b ?_, B1.out⟩
          rw [← HR.out]
          simp

end Go.Proofs.Ythncmjimfkbofaa
end
section
/- The contracts of Weight, the program's and the document's; of the law's made and same. -/
namespace Go.Proofs.Ythncmjimfkbofaa
set_option linter.unusedVariables false
open Go.RowKit Go.Shelf Go.Proofs.Rw Go.Proofs.Lh Go.Proofs.Bu

/-- All weight, as 64 bits bear it. -/
def wOf (l : List Ev) : Nat := Bu.wsum l % 18446744073709551616
theorem wOf_step {l : List Ev} {j : Nat} (hj : j < l.length) : IntKind.u64.wrap ((wOf (l.take j) : Int) + (l[j].2.2 : Int)) = (wOf (l.take (j + 1)) : Int) := by
  rw [List.take_succ_eq_append_getElem hj]
  unfold wOf
  rw [wsum_app, IntKind.wrap_u64]
  have : Bu.wsum [l[j]] = l[j].2.2 := by simp [Bu.wsum]
  rw [this]
  omega

set_option maxRecDepth 100000 in
set_option maxHeartbeats 2000000 in
theorem bweight_any (a0 a1 a2 a3 : Int) (l : List Ev) (hl : l.length ≤ 1000000) (w : World) (A : Option Addr) (c : Nat) (h : Lies evL w w.heap.size (.slice A l.length c) l) :
    Calls Try.prog 15 #[bval a0 a1 a2 a3 (.slice A l.length c)] w fun e w' => e = .returned (.int .u64 (wOf l : Int)) ∧ Below w.heap.size w w' := by
  obtain ⟨N, hN⟩ : ∃ N, l.length = N := ⟨_, rfl⟩
  obtain ⟨G, hG⟩ : ∃ G, wOf l = G := ⟨_, rfl⟩
  have HL := Lib.hid h
  rw [hN] at HL hl ⊢
  rw [hG]
  have HN := Lib.hid hN
  have HG := Lib.hid hG
  obtain ⟨W0, hW0⟩ : ∃ W, w.alloc (.cells #[.int .u64 a0, .int .i64 a1, .int .u64 a2, .int .u64 a3, .slice A N c] 33) = W := ⟨_, rfl⟩
  have p0 : W0.heap[w.heap.size]? = some (.cells #[.int .u64 a0, .int .i64 a1, .int .u64 a2, .int .u64 a3, .slice A N c] 33) := by rw [← hW0]; exact heap_alloc_new w _
  have b0 : Below w.heap.size w W0 := by rw [← hW0]; exact (Below.refl _ w).alloc (Nat.le_refl _) _
  obtain ⟨⟨x0, x1, x2, x3, x4⟩, -⟩ := box5 p0
  have l0 := lt_of p0
  have HW0 := Lib.hid hW0
  have B0 := Lib.hid b0
  clear h hN hG p0 hW0 b0
  go_enter Try.func15, Try.ntmps15
  go_upto_region 1 with (fail)
  rw [HW0.out]
  go_wp2
  go_loopw [3, 9] (fun s3 s9 wr => ∃ j : Nat, s9 = .int .i64 (j : Int) ∧ j ≤ N ∧ s3 = .int .u64 (wOf (l.take j) : Int) ∧ Hid (Below w.heap.size w wr)) (fun _ s9 _ => N - (intOf s9).toNat)
  case atStart => exact ⟨0, rfl, Nat.zero_le _, rfl, B0⟩
  case round =>
    obtain ⟨j, rfl, hj, rfl, HB⟩ := hrel
    by_cases hlt : j < N
    · have hjl : j < l.length := by rw [HN.out]; exact hlt
      obtain ⟨b, off, rfl, hb, -, hc⟩ := ev_at (HL.out.below HB.out) (by omega)
      obtain ⟨q0, q1, q2⟩ := hc j hjl
      have hw := wOf_step hjl
      obtain ⟨t0, ht0⟩ : ∃ x, l[j].1 = x := ⟨_, rfl⟩
      obtain ⟨t1, ht1⟩ : ∃ x, l[j].2.1 = x := ⟨_, rfl⟩
      obtain ⟨t2, ht2⟩ : ∃ x, l[j].2.2 = x := ⟨_, rfl⟩
      obtain ⟨s, hs⟩ : ∃ x, wOf (l.take j) = x := ⟨_, rfl⟩
      obtain ⟨s', hs'⟩ : ∃ x, wOf (l.take (j + 1)) = x := ⟨_, rfl⟩
      rw [ht0] at q0
      rw [ht1] at q1
      rw [ht2] at q2 hw
      rw [hs, hs'] at hw
      rw [hs]
      have HS := Lib.hid hs'
      have hbb : b < wr.heap.size := Nat.lt_of_lt_of_le hb HB.out.size
      clear hc ht0 ht1 ht2 hs hs' hjl
      go_wp2
      exact ⟨⟨j + 1, by go_num, hlt, by rw [HS.out], Lib.hid (HB.out.alloc HB.out.size _)⟩, by simp [intOf]; omega⟩
    · have e : j = N := by omega
      subst e
      have ht : wOf (l.take j) = G := by rw [List.take_of_length_le (by rw [HN.out]; exact Nat.le_refl _), HG.out]
      rw [ht]
      go_wp2
      go_ret
      exact ⟨rfl, HB.out⟩

set_option maxRecDepth 100000 in
set_option maxHeartbeats 2000000 in
theorem rweight_any (a0 a1 a2 a3 : Int) (l : List Ev) (hl : l.length ≤ 1000000) (w : World) (A : Option Addr) (c : Nat) (h : Lies evL w w.heap.size (.slice A l.length c) l) :
    Calls Try.prog 12 #[bval a0 a1 a2 a3 (.slice A l.length c)] w fun e w' => e = .returned (.int .u64 (wOf l : Int)) ∧ Below w.heap.size w w' := by
  obtain ⟨N, hN⟩ : ∃ N, l.length = N := ⟨_, rfl⟩
  obtain ⟨G, hG⟩ : ∃ G, wOf l = G := ⟨_, rfl⟩
  have HL := Lib.hid h
  rw [hN] at HL hl ⊢
  rw [hG]
  have HN := Lib.hid hN
  have HG := Lib.hid hG
  obtain ⟨W0, hW0⟩ : ∃ W, w.alloc (.cells #[.int .u64 a0, .int .i64 a1, .int .u64 a2, .int .u64 a3, .slice A N c] 29) = W := ⟨_, rfl⟩
  have p0 : W0.heap[w.heap.size]? = some (.cells #[.int .u64 a0, .int .i64 a1, .int .u64 a2, .int .u64 a3, .slice A N c] 29) := by rw [← hW0]; exact heap_alloc_new w _
  have b0 : Below w.heap.size w W0 := by rw [← hW0]; exact (Below.refl _ w).alloc (Nat.le_refl _) _
  obtain ⟨⟨x0, x1, x2, x3, x4⟩, -⟩ := box5 p0
  have l0 := lt_of p0
  have HW0 := Lib.hid hW0
  have B0 := Lib.hid b0
  clear h hN hG p0 hW0 b0
  go_enter Try.func12, Try.ntmps12
  go_upto_region 1 with (fail)
  rw [HW0.out]
  go_wp2
  go_loopw [3, 4] (fun s3 s9 wr => ∃ j : Nat, s9 = .int .i64 (j : Int) ∧ j ≤ N ∧ s3 = .int .u64 (wOf (l.take j) : Int) ∧ wr = W0) (fun _ s9 _ => N - (intOf s9).toNat)
  case atStart => exact ⟨0, rfl, Nat.zero_le _, rfl, rfl⟩
  case round =>
    obtain ⟨j, rfl, hj, rfl, rfl⟩ := hrel
    by_cases hlt : j < N
    · have hjl : j < l.length := by rw [HN.out]; exact hlt
      obtain ⟨b, off, rfl, hb, -, hc⟩ := ev_at (HL.out.below B0.out) (by omega)
      obtain ⟨q0, q1, q2⟩ := hc j hjl
      have hw := wOf_step hjl
      obtain ⟨t2, ht2⟩ : ∃ x, l[j].2.2 = x := ⟨_, rfl⟩
      obtain ⟨s, hs⟩ : ∃ x, wOf (l.take j) = x := ⟨_, rfl⟩
      obtain ⟨s', hs'⟩ : ∃ x, wOf (l.take (j + 1)) = x := ⟨_, rfl⟩
      rw [ht2] at q2 hw
      rw [hs, hs'] at hw
      rw [hs]
      have HS := Lib.hid hs'
      have hbb : b < wr.heap.size := Nat.lt_of_lt_of_le hb B0.out.size
      clear hc ht2 hs hs' hjl q0 q1
      go_wp2
      exact ⟨⟨j + 1, by go_num, hlt, by rw [HS.out], by trivial⟩, by simp [intOf]; omega⟩
    · have e : j = N := by omega
      subst e
      have ht : wOf (l.take j) = G := by rw [List.take_of_length_le (by rw [HN.out]; exact Nat.le_refl _), HG.out]
      rw [ht]
      go_wp2
      go_ret
      exact ⟨rfl, B0.out⟩

set_option maxHeartbeats 1000000 in
theorem lmadeB_any (a0 a1 a2 a3 : Int) (s : Value) (hs : ∃ A n c, s = .slice A n c) (w : World) :
    Calls Try.prog 11 #[bval a0 a1 a2 a3 s] w fun e w' => e = .returned (bval a0 a1 a2 a3 s) ∧ Below w.heap.size w w' := by
  obtain ⟨A, n, c, rfl⟩ := hs
  obtain ⟨W0, hW0, hsz, p0, p1, b0⟩ := heap_two w (.cells #[.int .u64 a0, .int .i64 a1, .int .u64 a2, .int .u64 a3, .slice A n c] 29) (.cells #[.int .u64 0, .int .i64 0, .int .u64 0, .int .u64 0, .slice none 0 0] 33)
  obtain ⟨⟨x0, x1, x2, x3, x4⟩, -⟩ := box5 p0
  obtain ⟨⟨z0, z1, z2, z3, z4⟩, f1⟩ := box5 p1
  have l0 := lt_of p0
  have l1 := lt_of p1
  obtain ⟨W5, hW5, q5, g5⟩ := fin5 p1 (.int .u64 a0) (.int .i64 a1) (.int .u64 a2) (.int .u64 a3) (.slice A n c)
  obtain ⟨⟨y0, y1, y2, y3, y4⟩, -⟩ := box5 q5
  have B5 := Lib.hid (below_row b0 g5 (Nat.le_succ _))
  have HW0 := Lib.hid hW0
  have HW5 := Lib.hid hW5
  have Y := Lib.hid (And.intro y0 (And.intro y1 (And.intro y2 (And.intro y3 y4))))
  clear hW0 hW5 p0 p1 q5 g5 b0 hsz y0 y1 y2 y3 y4
  go_enter Try.func11, Try.ntmps11
  go_upto_region 1 with (fail)
  rw [← HW0.out]
  go_wp2
  rw [HW5.out]
  obtain ⟨y0, y1, y2, y3, y4⟩ := Y.out
  exact bodyPost_ret (v := bval a0 a1 a2 a3 (.slice A n c)) (by simp [results, Try.results11, go_sem, y0, y1, y2, y3, y4]) rfl ⟨rfl, B5.out⟩

set_option maxHeartbeats 2000000 in
theorem lsameB_any (a0 a1 a2 a3 b0 b1 b2 b3 : Int) (xs ys : List Ev) (hl : xs.length ≤ 100000) (w : World) (A1 A2 : Option Addr) (c1 c2 : Nat) (h1 : Lies evL w w.heap.size (.slice A1 xs.length c1) xs) (h2 : Lies evL w w.heap.size (.slice A2 ys.length c2) ys) :
    Calls Try.prog 16 #[bval a0 a1 a2 a3 (.slice A1 xs.length c1), bval b0 b1 b2 b3 (.slice A2 ys.length c2)] w fun e w' => e = .returned (.bool (bufEqB a0 a1 a2 a3 b0 b1 b2 b3 xs ys)) ∧ Below w.heap.size w w' := by
  obtain ⟨W0, hW0, hsz, p0, p1, b0'⟩ := heap_two w (.cells #[.int .u64 a0, .int .i64 a1, .int .u64 a2, .int .u64 a3, .slice A1 xs.length c1] 33) (.cells #[.int .u64 b0, .int .i64 b1, .int .u64 b2, .int .u64 b3, .slice A2 ys.length c2] 29)
  have hq := rsm_any a0 a1 a2 a3 b0 b1 b2 b3 xs ys hl W0 A1 A2 c1 c2 (h1.grow b0') (h2.grow b0')
  obtain ⟨N, hN⟩ : ∃ N, xs.length = N := ⟨_, rfl⟩
  obtain ⟨M, hM⟩ : ∃ N, ys.length = N := ⟨_, rfl⟩
  rw [hN, hM] at hq hW0
  rw [hN] at p0
  rw [hM] at p1
  rw [hN, hM]
  obtain ⟨⟨x0, x1, x2, x3, x4⟩, -⟩ := box5 p0
  obtain ⟨⟨y0, y1, y2, y3, y4⟩, -⟩ := box5 p1
  have l0 := lt_of p0
  have l1 := lt_of p1
  obtain ⟨r, hr⟩ : ∃ r, bufEqB a0 a1 a2 a3 b0 b1 b2 b3 xs ys = r := ⟨_, rfl⟩
  rw [hr] at hq ⊢
  have HQ := Lib.hid hq
  have HW0 := Lib.hid hW0
  have B0 := Lib.hid b0'
  clear hq hW0 b0' p0 p1 h1 h2 hN hM hl hsz hr
  go_enter Try.func16, Try.ntmps16
  go_upto_region 1 with (fail)
  rw [← HW0.out]
  go_wp2_with (go_at_call 38; (with_reducible refine HQ.out.mono ?_); rintro r w1 ⟨rfl, hb⟩; have B1 := Lib.hid (thn B0.out hb); clear hb)
  go_ret
  exact ⟨rfl, B1.out⟩
end Go.Proofs.Ythncmjimfkbofaa
end
section
/- The contracts of May on buffers, the program's and the document's. -/
namespace Go.Proofs.Ythncmjimfkbofaa
set_option linter.unusedVariables false
open Go.RowKit Go.Shelf Go.Proofs.Rw Go.Proofs.Lh Go.Proofs.Bu

def nearB (l m f : Nat) : Bool := decide (f ≤ m) && (decide (m ≤ 9223372036854775807) && decide (m - f ≤ l))
def evOk (f m p : Nat) (e : Ev) : Bool := !(decide (e.2.2 = 0)) && (decide (f < e.1) && (decide (p ≤ e.1) && decide (e.1 ≤ m)))
def turnFrom (f m : Nat) : Nat → List Ev → Bool
  | _, [] => true
  | p, e :: l => evOk f m p e && turnFrom f m e.1 l
def prevT (f : Nat) (l : List Ev) (j : Nat) : Nat := if j = 0 then f else ((l[j - 1]?).map fun e => e.1).getD 0
theorem prevT_succ {f : Nat} {l : List Ev} {j : Nat} (hj : j < l.length) : prevT f l (j + 1) = l[j].1 := by
  unfold prevT
  rw [if_neg (by omega), Nat.add_sub_cancel, List.getElem?_eq_getElem hj]
  rfl
theorem turn_drop {f m : Nat} {l : List Ev} {j : Nat} (hj : j < l.length) : turnFrom f m (prevT f l j) (l.drop j) = (evOk f m (prevT f l j) l[j] && turnFrom f m (prevT f l (j + 1)) (l.drop (j + 1))) := by
  rw [List.drop_eq_getElem_cons hj, prevT_succ hj]
  rfl
def mayC (l : Nat) (r : Int) (m f : Nat) (evs : List Ev) : Int := if confB (l : Int) r = false then 9 else if (decide ((evs.length : Int) ≤ r) && (nearB l m f && turnFrom f m f evs)) then 0 else 2

set_option maxHeartbeats 2000000 in
theorem near_any (l m f : Nat) (hm : m < 18446744073709551616) (r : Int) (s : Value) (hs : ∃ A n c, s = .slice A n c) (w : World) :
    Calls Try.prog 55 #[bval (l : Int) r (m : Int) (f : Int) s] w fun e w' => e = .returned (.bool (nearB l m f)) ∧ Below w.heap.size w w' := by
  obtain ⟨A, n, c, rfl⟩ := hs
  obtain ⟨W0, hW0⟩ : ∃ W, w.alloc (.cells #[.int .u64 (l : Int), .int .i64 r, .int .u64 (m : Int), .int .u64 (f : Int), .slice A n c] 33) = W := ⟨_, rfl⟩
  have p0 : W0.heap[w.heap.size]? = some (.cells #[.int .u64 (l : Int), .int .i64 r, .int .u64 (m : Int), .int .u64 (f : Int), .slice A n c] 33) := by rw [← hW0]; exact heap_alloc_new w _
  have b0 : Below w.heap.size w W0 := by rw [← hW0]; exact (Below.refl _ w).alloc (Nat.le_refl _) _
  obtain ⟨⟨x0, x1, x2, x3, x4⟩, -⟩ := box5 p0
  have l0 := lt_of p0
  have HW0 := Lib.hid hW0
  have B0 := Lib.hid b0
  clear p0 hW0 b0
  obtain ⟨R, hR⟩ : ∃ R, nearB l m f = R := ⟨_, rfl⟩
  rw [hR]
  have HR := Lib.hid hR
  clear hR
  by_cases h1 : f ≤ m
  · have h1z : (f : Int) ≤ m := by omega
    by_cases h2 : m ≤ 9223372036854775807
    · have h2z : (m : Int) ≤ 9223372036854775807 := by omega
      by_cases h3 : m - f ≤ l
      · have h3z : (m : Int) - f ≤ l := by omega
        go_enter Try.func55, Try.ntmps55
        go_upto_region 1 with (fail)
        rw [HW0.out]
        go_wp2
        go_ret
        refine ⟨ret_b ?_, B0.out⟩
        rw [← HR.out]
        simp [nearB]
        try omega
      · have h3z : ¬ (m : Int) - f ≤ l := by omega
        go_enter Try.func55, Try.ntmps55
        go_upto_region 1 with (fail)
        rw [HW0.out]
        go_wp2
        go_ret
        refine ⟨ret_b ?_, B0.out⟩
        rw [← HR.out]
        simp [nearB]
        try omega
    · have h2z : ¬ (m : Int) ≤ 9223372036854775807 := by omega
      go_enter Try.func55, Try.ntmps55
      go_upto_region 1 with (fail)
      rw [HW0.out]
      go_wp2
      go_ret
      refine ⟨ret_b ?_, B0.out⟩
      rw [← HR.out]
      simp [nearB]
      try omega
  · have h1z : ¬ (f : Int) ≤ m := by omega
    go_enter Try.func55, Try.ntmps55
    go_upto_region 1 with (fail)
    rw [HW0.out]
    go_wp2
    go_ret
    refine ⟨ret_b ?_, B0.out⟩
    rw [← HR.out]
    simp [nearB]
    try omega

set_option maxRecDepth 100000 in
set_option maxHeartbeats 4000000 in
theorem inTurn_any (a0 a1 : Int) (m f : Nat) (l : List Ev) (hl : l.length ≤ 1000000) (w : World) (A : Option Addr) (c : Nat) (h : Lies evL w w.heap.size (.slice A l.length c) l) :
    Calls Try.prog 56 #[bval a0 a1 (m : Int) (f : Int) (.slice A l.length c)] w fun e w' => e = .returned (.bool (turnFrom f m f l)) ∧ Below w.heap.size w w' := by
  obtain ⟨N, hN⟩ : ∃ N, l.length = N := ⟨_, rfl⟩
  obtain ⟨G, hG⟩ : ∃ G, turnFrom f m f l = G := ⟨_, rfl⟩
  have HL := Lib.hid h
  rw [hN] at HL hl ⊢
  rw [hG]
  have HN := Lib.hid hN
  have hG0 : turnFrom f m (prevT f l 0) (l.drop 0) = G := hG
  have HG := Lib.hid hG0
  obtain ⟨W0, hW0⟩ : ∃ W, w.alloc (.cells #[.int .u64 a0, .int .i64 a1, .int .u64 (m : Int), .int .u64 (f : Int), .slice A N c] 33) = W := ⟨_, rfl⟩
  have p0 : W0.heap[w.heap.size]? = some (.cells #[.int .u64 a0, .int .i64 a1, .int .u64 (m : Int), .int .u64 (f : Int), .slice A N c] 33) := by rw [← hW0]; exact heap_alloc_new w _
  have b0 : Below w.heap.size w W0 := by rw [← hW0]; exact (Below.refl _ w).alloc (Nat.le_refl _) _
  have P0 := Lib.hid p0
  obtain ⟨⟨x0, x1, x2, x3, x4⟩, -⟩ := box5 p0
  have l0 := lt_of p0
  have HW0 := Lib.hid hW0
  have B0 := Lib.hid b0
  clear h hN hG hG0 p0 hW0 b0
  go_enter Try.func56, Try.ntmps56
  go_upto_region 1 with (fail)
  rw [HW0.out]
  go_wp2
  go_loopw [3, 11] (fun s3 s11 wr => ∃ j : Nat, s11 = .int .i64 (j : Int) ∧ j ≤ N ∧ s3 = .int .u64 (prevT f l j : Int) ∧ Hid (turnFrom f m (prevT f l j) (l.drop j) = G) ∧ Hid (Below W0.heap.size W0 wr)) (fun _ s11 _ => N - (intOf s11).toNat)
  case atStart => exact ⟨0, rfl, Nat.zero_le _, rfl, HG, Lib.hid (Below.refl _ _)⟩
  case round =>
    obtain ⟨j, rfl, hj, rfl, HT, HB⟩ := hrel
    by_cases hlt : j < N
    · have hjl : j < l.length := by rw [HN.out]; exact hlt
      obtain ⟨b, off, rfl, hb, -, hc⟩ := ev_at (HL.out.below (B0.out.trans (HB.out.mono B0.out.size))) (by omega)
      obtain ⟨q0, q1, q2⟩ := hc j hjl
      have hp := (HB.out.block _ l0).trans P0.out
      obtain ⟨⟨z0, z1, z2, z3, z4⟩, -⟩ := box5 hp
      have lz := lt_of hp
      have htd := HT.out
      rw [turn_drop hjl] at htd
      have hps := prevT_succ (f := f) hjl
      have hbb : b < wr.heap.size := Nat.lt_of_lt_of_le hb (Nat.le_trans B0.out.size HB.out.size)
      obtain ⟨t0, ht0⟩ : ∃ x, l[j].1 = x := ⟨_, rfl⟩
      obtain ⟨t1, ht1⟩ : ∃ x, l[j].2.1 = x := ⟨_, rfl⟩
      obtain ⟨t2, ht2⟩ : ∃ x, l[j].2.2 = x := ⟨_, rfl⟩
      obtain ⟨p, hpp⟩ : ∃ x, prevT f l j = x := ⟨_, rfl⟩
      unfold evOk at htd
      rw [ht0, ht2, hpp] at htd
      rw [ht0] at q0 hps
      rw [ht1] at q1
      rw [ht2] at q2
      rw [hpp]
      have HTD := Lib.hid htd
      have HPS := Lib.hid hps
      have HB2 := Lib.hid (thn B0.out HB.out)
      clear hc hp htd hps ht0 ht1 ht2 hpp hjl
      by_cases h1 : t2 = 0
      · have d1 : ((t2 : Int) == 0) = true := by rw [h1]; rfl
        have hG9 := HTD.out
        rw [show decide (t2 = 0) = true from decide_eq_true h1] at hG9
        have HG9 := Lib.hid hG9
        clear h1 hG9
        go_wp2
        go_ret
        exact ⟨ret_b (by have := HG9.out; simpa using this), HB2.out.alloc HB2.out.size _⟩
      have d1 : ((t2 : Int) == 0) = false := by rw [beq_eq_false_iff_ne]; omega
      have hG9 := HTD.out
      rw [show decide (t2 = 0) = false from decide_eq_false h1] at hG9
      by_cases h2 : f < t0
      · rw [show decide (f < t0) = true from decide_eq_true h2] at hG9
        have d2 : decide ((t0 : Int) ≤ (f : Int)) = false := decide_eq_false (by omega)
        have d2' : ¬ (t0 : Int) ≤ (f : Int) := by omega
        by_cases h3 : p ≤ t0
        · rw [show decide (p ≤ t0) = true from decide_eq_true h3] at hG9
          have d3' : ¬ (t0 : Int) < (p : Int) := by omega
          by_cases h4 : t0 ≤ m
          · rw [show decide (t0 ≤ m) = true from decide_eq_true h4] at hG9
            have d4' : ¬ (m : Int) < (t0 : Int) := by omega
            simp only [Bool.not_false, Bool.true_and] at hG9
            have HG9 := Lib.hid hG9
            clear h1 h2 h3 h4 hG9 d2
            go_wp2
            refine ⟨⟨j + 1, by go_num, hlt, by rw [HPS.out], HG9, Lib.hid (HB.out.alloc HB.out.size _)⟩, by simp [intOf]; omega⟩
          · rw [show decide (t0 ≤ m) = false from decide_eq_false h4] at hG9
            have d4' : (m : Int) < (t0 : Int) := by omega
            have HG9 := Lib.hid hG9
            clear h1 h2 h3 h4 hG9 d2
            go_wp2
            go_ret
            exact ⟨ret_b (by have := HG9.out; simpa using this), HB2.out.alloc HB2.out.size _⟩
        · rw [show decide (p ≤ t0) = false from decide_eq_false h3] at hG9
          have d3' : (t0 : Int) < (p : Int) := by omega
          have HG9 := Lib.hid hG9
          clear h1 h2 h3 hG9 d2
          go_wp2
          all_goals
            go_ret
            exact ⟨ret_b (by have := HG9.out; simpa using this), HB2.out.alloc HB2.out.size _⟩
      · rw [show decide (f < t0) = false from decide_eq_false h2] at hG9
        have d2' : (t0 : Int) ≤ (f : Int) := by omega
        have HG9 := Lib.hid hG9
        clear h1 h2 hG9
        go_wp2
        all_goals
          go_ret
          exact ⟨ret_b (by have := HG9.out; simpa using this), HB2.out.alloc HB2.out.size _⟩
    · have e : j = N := by omega
      subst e
      have hd := HT.out
      rw [List.drop_of_length_le (by rw [HN.out]; exact Nat.le_refl _)] at hd
      have HD := Lib.hid (show true = G from hd)
      clear hd
      go_wp2
      go_ret
      exact ⟨ret_b HD.out, thn B0.out HB.out⟩
end Go.Proofs.Ythncmjimfkbofaa
end
section
/- The contracts of May on buffers. -/
namespace Go.Proofs.Ythncmjimfkbofaa
set_option linter.unusedVariables false
open Go.RowKit Go.Shelf Go.Proofs.Rw Go.Proofs.Lh Go.Proofs.Bu

set_option maxRecDepth 100000 in
set_option maxHeartbeats 4000000 in
theorem bmay_any (l : Nat) (r : Int) (m f : Nat) (hm : m < 18446744073709551616) (evs : List Ev) (hl : evs.length ≤ 1000000) (w : World) (A : Option Addr) (c : Nat) (h : Lies evL w w.heap.size (.slice A evs.length c) evs) :
    Calls Try.prog 29 #[bval (l : Int) r (m : Int) (f : Int) (.slice A evs.length c)] w fun e w' => e = .returned (.int .i64 (mayC l r m f evs)) ∧ Below w.heap.size w w' := by
  obtain ⟨N, hN⟩ : ∃ N, evs.length = N := ⟨_, rfl⟩
  obtain ⟨G, hG⟩ : ∃ G, mayC l r m f evs = G := ⟨_, rfl⟩
  rw [hG]
  unfold mayC at hG
  have k1 := fun W => bnew_any (l : Int) r W
  have k2 := fun W => near_any l m f hm r (.slice A N c) ⟨_, _, _, rfl⟩ W
  have k3 := fun (W : World) (hW : Below w.heap.size w W) => inTurn_any (l : Int) r m f evs hl W A c (h.grow hW)
  rw [hN] at k3 hG hl ⊢
  obtain ⟨nb, hnb⟩ : ∃ b, nearB l m f = b := ⟨_, rfl⟩
  obtain ⟨tb, htb⟩ : ∃ b, turnFrom f m f evs = b := ⟨_, rfl⟩
  obtain ⟨cb, hcb⟩ : ∃ b, confB (l : Int) r = b := ⟨_, rfl⟩
  rw [hnb] at k2 hG
  rw [htb] at k3 hG
  rw [hcb] at hG
  obtain ⟨W0, hW0⟩ : ∃ W, w.alloc (.cells #[.int .u64 (l : Int), .int .i64 r, .int .u64 (m : Int), .int .u64 (f : Int), .slice A N c] 33) = W := ⟨_, rfl⟩
  have p0 : W0.heap[w.heap.size]? = some (.cells #[.int .u64 (l : Int), .int .i64 r, .int .u64 (m : Int), .int .u64 (f : Int), .slice A N c] 33) := by rw [← hW0]; exact heap_alloc_new w _
  have b0 : Below w.heap.size w W0 := by rw [← hW0]; exact (Below.refl _ w).alloc (Nat.le_refl _) _
  obtain ⟨⟨x0, x1, x2, x3, x4⟩, -⟩ := box5 p0
  have l0 := lt_of p0
  have P0 := Lib.hid p0
  have HW0 := Lib.hid hW0
  have B0 := Lib.hid b0
  have K2 := Lib.hid k2
  have K3 := Lib.hid k3
  have HG := Lib.hid hG
  clear h hN hG p0 hW0 b0 k2 k3 hnb htb
  cases cb
  · simp only [newV_no hcb] at k1
    have K1 := Lib.hid k1
    have hG := HG.out
    rw [if_pos rfl] at hG
    subst hG
    clear k1 hcb
    go_enter Try.func29, Try.ntmps29
    go_upto_region 1 with (fail)
    rw [HW0.out]
    go_wp2_with (go_at_call 27; (with_reducible refine (K1.out _).mono ?_); rintro e w1 ⟨rfl, hb⟩; have HB1 := Lib.hid (thn B0.out hb); clear hb)
    go_ret
    exact ⟨rfl, HB1.out.alloc HB1.out.size _⟩
  · simp only [newV_yes hcb] at k1
    have K1 := Lib.hid k1
    have hG := HG.out
    rw [if_neg (by decide)] at hG
    have HG := Lib.hid hG
    clear k1 hcb hG
    go_enter Try.func29, Try.ntmps29
    go_upto_region 1 with (fail)
    rw [HW0.out]
    go_upto_region 2 with (go_at_call 27; (with_reducible refine (K1.out _).mono ?_); rintro e w1 ⟨rfl, hb⟩; have P1 := Lib.hid ((hb.block _ l0).trans P0.out); have HB1 := Lib.hid (thn B0.out hb); clear hb)
    obtain ⟨W2, hW2⟩ : ∃ W, w1.alloc (.cells #[.int .u64 (l : Int), .int .i64 r, .int .u64 0, .int .u64 0, .slice none 0 0] 33) = W := ⟨_, rfl⟩
    have b2 : Below w1.heap.size w1 W2 := by rw [← hW2]; exact (Below.refl _ w1).alloc (Nat.le_refl _) _
    have p2 := (b2.block _ (lt_of P1.out)).trans P1.out
    rw [hW2]
    obtain ⟨⟨y0, y1, y2, y3, y4⟩, -⟩ := box5 p2
    have l2 := lt_of p2
    have P2 := Lib.hid p2
    have HB2 := Lib.hid (thn HB1.out b2)
    clear hW2 b2 p2 x0 x1 x2 x3 x4 P0 P1 HB1 K1
    by_cases h1 : (N : Int) ≤ r
    · have hG := HG.out
      rw [show decide ((N : Int) ≤ r) = true from decide_eq_true h1] at hG
      have HG := Lib.hid hG
      clear hG
      cases nb
      · have hG := HG.out
        rw [Bool.false_and, Bool.and_false, if_neg (by decide)] at hG
        subst hG
        go_wp2_with (go_at_call 55; (with_reducible refine (K2.out _).mono ?_); rintro e w3 ⟨rfl, hb⟩; have HB3 := Lib.hid (thn HB2.out hb); clear hb)
        go_ret
        exact ⟨rfl, HB3.out⟩
      cases tb
      · have hG := HG.out
        rw [Bool.and_false, Bool.and_false, if_neg (by decide)] at hG
        subst hG
        go_wp2_with (first
          | (go_at_call 55; (with_reducible refine (K2.out _).mono ?_); rintro e w3 ⟨rfl, hb⟩; have HB3 := Lib.hid (thn HB2.out hb); have p3 := (hb.block _ l2).trans P2.out; obtain ⟨⟨z0, z1, z2, z3, z4⟩, -⟩ := box5 p3; have l3 := lt_of p3; clear hb p3)
          | (go_at_call 56; (with_reducible refine (K3.out _ HB3.out).mono ?_); rintro e w4 ⟨rfl, hb⟩; have HB4 := Lib.hid (thn HB3.out hb); clear hb))
        go_ret
        exact ⟨rfl, HB4.out⟩
      · have hG := HG.out
        rw [Bool.and_true, Bool.and_true, if_pos rfl] at hG
        subst hG
        go_wp2_with (first
          | (go_at_call 55; (with_reducible refine (K2.out _).mono ?_); rintro e w3 ⟨rfl, hb⟩; have HB3 := Lib.hid (thn HB2.out hb); have p3 := (hb.block _ l2).trans P2.out; obtain ⟨⟨z0, z1, z2, z3, z4⟩, -⟩ := box5 p3; have l3 := lt_of p3; clear hb p3)
          | (go_at_call 56; (with_reducible refine (K3.out _ HB3.out).mono ?_); rintro e w4 ⟨rfl, hb⟩; have HB4 := Lib.hid (thn HB3.out hb); clear hb))
        go_ret
        exact ⟨rfl, HB4.out⟩
    · have hG := HG.out
      rw [show decide ((N : Int) ≤ r) = false from decide_eq_false h1, Bool.false_and, if_neg (by decide)] at hG
      subst hG
      go_wp2
      go_ret
      exact ⟨rfl, HB2.out⟩

end Go.Proofs.Ythncmjimfkbofaa
end
