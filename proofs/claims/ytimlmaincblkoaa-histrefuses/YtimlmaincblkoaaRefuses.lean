/-
  'skylight/skylightlaw06.HistRefuses' returns true for every input, and the input reads afterwards as it read before. Conditions: none.
-/
import Derived.Test.YtimlmaincblkoaaRows
import Derived.WalkKit
import Derived.ProofKit
import Derived.OpenShut
import Derived.ShutString
import Derived.ChangeOld
import Derived.Below
import Derived.Test.YtimlmaincblkoaaOpen
import Derived.Test.YtimlmaincblkoaaHPlayed
import Derived.Test.YtimlmaincblkoaaHAwk
namespace Go.Proofs.Ytimlmaincblkoaa.histRefuses
open Go.Proofs Go.Proofs.Rn Go.Proofs.Lm Go.Proofs.Op Go.Proofs.Rw Go.Proofs.Lh Go.Proofs.Rf
open Go.ChangeShapes Go.WideShapes Go.ChangeAt Go.RowKit
open Go.ChangeMaps (open_string shut_string)
set_option linter.unusedVariables false

theorem own : ownKnob Try.prog.godebug = none := by kernel_rfl
theorem laidOut : laidOutB Try.prog = true := by kernel_rfl

/-- A slice of integers that came in: nil, or a row of cells of its capacity, each fitting its kind. -/
def IsRow (k : IntKind) (w : World) (a : Option Addr) (len cap : Nat) (zs : List Int) : Prop :=
  (a = none ∧ len = 0 ∧ cap = 0 ∧ zs = []) ∨
  ∃ x, a = some x ∧ len ≤ cap ∧ cap ≤ maxLen ∧ zs.length = cap ∧ (∀ i, i < zs.length → w.cell? (x.add i) = some (.int k (zs.getD i 0))) ∧ ∀ n ∈ zs, (Lit.int k n).wf = true

theorem fit2_of {c : List Value} (h : Op.Fits [.u64, .u64] c) : ∃ x0 x1 : Int, c = [.int .u64 x0, .int .u64 x1] ∧ (Lit.int .u64 x0).wf = true ∧ (Lit.int .u64 x1).wf = true := by
  cases c with
  | nil => exact h.elim
  | cons y0 c =>
  have g0 := h.1
  replace h := h.2
  cases c with
  | nil => exact h.elim
  | cons y1 c =>
  have g1 := h.1
  replace h := h.2
  cases c with
  | cons y c => exact h.elim
  | nil =>
  obtain ⟨x0, e0, e0w⟩ := g0
  obtain ⟨x1, e1, e1w⟩ := g1
  exact ⟨x0, x1, by rw [e0, e1], e0w, e1w⟩

open Go.RowKit Go.Shelf Go.Proofs.Rw Go.Proofs.Lh Go.Proofs.Rf

set_option maxRecDepth 100000 in
set_option maxHeartbeats 4000000 in
theorem walk (a0 : Int) (a1 : Option Addr) (len1 cap1 : Nat) (z1 : Nat → Nat → Int) (a2_0 a2_1 : Int) (w : World) (w0 : (Lit.int .i64 a0).wf = true) (w1 : Op.FlatRow [.u64, .u64] w a1 len1 cap1 z1) (w2_0 : (Lit.int .u64 a2_0).wf = true) (w2_1 : (Lit.int .u64 a2_1).wf = true) :
    Calls Try.prog 4 #[.int .i64 a0, .slice a1 len1 cap1, .agg #[.int .u64 a2_0, .int .u64 a2_1]] w fun e w' => e = .returned (.bool true) ∧ Below w.heap.size w w' := by
  obtain ⟨ds, hdl1, hdL1, hdB1⟩ := sp_of_row w1
  have hD1 : Deeds w a1 len1 cap1 ds := ⟨hdl1, hdL1, hdB1⟩
  obtain ⟨b00, b01⟩ := bounds_i64 w0
  have hk := kOf_le a0
  have hdn : doneN ds ≤ ds.length := by unfold doneN; omega
  have hmd : Made (kOf a0) (play (kOf a0) ds (doneN ds)).2 := play_made hk.1 (by omega) ds _ hdn
  have hplay := fun (W : World) (hW : Below w.heap.size w W) => played_any a0 b00 (by omega) ds W a1 len1 cap1 (hD1.grow hW)
  have hlk := play_last (kOf a0) hk.1 (by omega) ds (doneN ds) hdn
  have htk := play_tick (kOf a0) ds (doneN ds) hdn
  obtain ⟨kk, hkk⟩ : ∃ x, kOf a0 = x := ⟨_, rfl⟩
  rw [hkk] at hk hmd hlk htk
  simp only [hkk] at hplay
  obtain ⟨TK, hTK⟩ : ∃ x, (play kk ds (doneN ds)).1 = x := ⟨_, rfl⟩
  rw [hTK] at hlk htk
  obtain ⟨L, hL⟩ : ∃ x, (play kk ds (doneN ds)).2 = x := ⟨_, rfl⟩
  rw [hL] at hmd hlk
  simp only [hL] at hplay
  obtain ⟨N, hN⟩ : ∃ x, L.length = x := ⟨_, rfl⟩
  simp only [hN] at hplay
  have hN53 : N ≤ 53 := by have := hmd.len; omega
  have hlev : ∀ i, (lev L i).length ≤ 1026 := hmd.lev
  have htot : tot L ≤ 4503599627370496 := hmd.small
  have HP := Lib.hid hplay
  have HMD := Lib.hid hmd
  have HLEV := Lib.hid hlev
  have HN := Lib.hid hN
  have HDE := Lib.hid hD1
  have HLK := Lib.hid hlk
  have hTKl : TK ≤ 30000 := by have : doneN ds ≤ 30 := by unfold doneN; omega
                               omega
  clear hplay hmd hlev hN hD1 hdl1 hdL1 hdB1 hkk hTK hL w0 w1 hdn hlk htk
  obtain ⟨c20, c21⟩ := bounds_u64 w2_0
  obtain ⟨c30, c31⟩ := bounds_u64 w2_1
  obtain ⟨d0, rfl⟩ : ∃ m : Nat, a2_0 = m := ⟨a2_0.toNat, by omega⟩
  obtain ⟨d1, rfl⟩ : ∃ m : Nat, a2_1 = m := ⟨a2_1.toNat, by omega⟩
  have hd1 : d1 < 18446744073709551616 := by omega
  clear w2_0 w2_1 c20 c21 c30 c31
  have hbx : (w.alloc (.cells #[.int .u64 (d0 : Int), .int .u64 (d1 : Int)] 38)).heap[w.heap.size]? = some (.cells #[.int .u64 (d0 : Int), .int .u64 (d1 : Int)] 38) := heap_alloc_new w _
  have HBX := Lib.hid hbx
  clear hbx
  obtain ⟨KO, hKO⟩ : ∃ x, outK kk L d0 d1 = x := ⟨_, rfl⟩
  obtain ⟨R, hR⟩ : ∃ x, outL kk L d0 d1 = x := ⟨_, rfl⟩
  obtain ⟨C, hC⟩ : ∃ C : Int, ((code L d0 d1 : Nat) : Int) = C := ⟨_, rfl⟩
  have hRm : R.length ≤ 1000000 ∧ ∀ i, (lev R i).length ≤ 10000000 := by
    rw [← hR]
    unfold outL
    split
    · have hm := HMD.out.add (by assumption)
      exact ⟨by have := hm.len; omega, fun i => by have := hm.lev i; omega⟩
    · exact ⟨by simp, fun i => by simp [lev]⟩
  have hadd : ∀ (W : World) (A : Option Addr) (c : Nat), Levs W W.heap.size (.slice A N c) L → Calls Try.prog 16 #[.agg #[.int .i64 (kk : Int), .int .i64 0, .slice A N c], .int .u64 (d0 : Int), .int .u64 (d1 : Int)] W fun e w' => ∃ A' c', e = .returned (.tuple #[.agg #[.int .i64 KO, .int .i64 0, .slice A' R.length c'], .int .i64 C]) ∧ Levs w' w'.heap.size (.slice A' R.length c') R ∧ Below W.heap.size W w' := by
    intro W A c hLv
    have := add_any kk L HMD.out d0 d1 hd1 W A c (by rw [HN.out]; exact hLv)
    rw [hC, hKO, hR, HN.out] at this
    exact this
  have hradd : ∀ (W : World) (A : Option Addr) (c : Nat), Levs W W.heap.size (.slice A N c) L → Calls Try.prog 17 #[.agg #[.int .i64 (kk : Int), .int .i64 0, .slice A N c], .int .u64 (d0 : Int), .int .u64 (d1 : Int)] W fun e w' => ∃ A' c', e = .returned (.tuple #[.agg #[.int .i64 KO, .int .i64 0, .slice A' R.length c'], .int .i64 C]) ∧ Levs w' w'.heap.size (.slice A' R.length c') R ∧ Below W.heap.size W w' := by
    intro W A c hLv
    have := radd_any kk L HMD.out d0 d1 hd1 W A c (by rw [HN.out]; exact hLv)
    rw [hC, hKO, hR, HN.out] at this
    exact this
  obtain ⟨NR, hNR⟩ : ∃ x, R.length = x := ⟨_, rfl⟩
  simp only [hNR] at hadd hradd
  have HADD := Lib.hid hadd
  have HRADD := Lib.hid hradd
  have HRM := Lib.hid hRm
  have HNR := Lib.hid hNR
  clear hadd hradd hRm hNR hKO hR hC
  go_enter Try.func4, Try.ntmps4
  go_upto_region 3 with (first
    | (go_at_call 9; refine (awake_any _).mono ?_; rintro e wa ⟨rfl, ha⟩; have t := (ha.block w.heap.size (by simp)).trans HBX.out; have HX := Lib.hid t; have HWA := Lib.hid (((Below.refl _ w).alloc (Nat.le_refl _) _).trans (ha.mono (by simp))); clear ha t)
    | (go_at_call 10; refine (HP.out _ HWA.out).mono ?_; rintro e w3 ⟨A, c, A2, c2, rfl, hLa, hLb, hb3⟩; have t := (hb3.block _ (lt_of HX.out)).trans HX.out; have HX3 := Lib.hid t; have HLA := Lib.hid hLa; have HLB := Lib.hid hLb; have HB3 := Lib.hid (thn HWA.out hb3); clear hLa hLb hb3 t))
  have HX4 := Lib.hid ((((Below.refl w3.heap.size w3).alloc (Nat.le_refl _) (.cells #[.int .i64 (kk : Int), .int .i64 0, .slice A N c] 26)).alloc (by simp) (.cells #[.int .i64 (kk : Int), .int .i64 0, .slice A2 N c2] 27)).block _ (lt_of HX3.out) |>.trans HX3.out)
  obtain ⟨W4, hW4, hsz4, p0, p1, hB4⟩ := heap_two w3 (.cells #[.int .i64 (kk : Int), .int .i64 0, .slice A N c] 26) (.cells #[.int .i64 (kk : Int), .int .i64 0, .slice A2 N c2] 27)
  rw [← hW4] at HX4 ⊢
  have HLA4 := Lib.hid (HLA.out.grow hB4)
  have HLB4 := Lib.hid (HLB.out.grow hB4)
  have HB4 := Lib.hid (thn HB3.out hB4)
  have P0 := Lib.hid p0
  have P1 := Lib.hid p1
  obtain ⟨q0, q1, q2⟩ := box3 p0
  obtain ⟨r0, r1, r2⟩ := box3 p1
  have l0 := lt_of p0
  have l1 := lt_of p1
  clear hW4 hB4 p0 p1 HLA HLB HB3 HP
  obtain ⟨x0, x1, -, -⟩ := box2 HX4.out
  have lx := lt_of HX4.out
  go_upto_region 4 with (go_at_call 16; refine (HADD.out _ _ _ HLA4.out).mono ?_; rintro e w5 ⟨A5, c5, rfl, hL5, hb5⟩; have t := (hb5.block _ lx).trans HX4.out; obtain ⟨x0', x1', -, -⟩ := box2 t; have lx' := lt_of t; have t1 := (hb5.block _ l1).trans P1.out; obtain ⟨r0', r1', r2'⟩ := box3 t1; have l1' := lt_of t1; have HL5 := Lib.hid hL5; have HB5 := Lib.hid hb5; clear hL5 hb5 t t1)
  go_upto_region 5 with (go_at_call 17; refine (HRADD.out _ _ _ ((HLB4.out.grow HB5.out).grow ((Below.refl _ w5).alloc (Nat.le_refl _) _))).mono ?_; rintro e w6 ⟨A6, c6, rfl, hL6, hb6⟩; have HL6 := Lib.hid hL6; have HB6 := Lib.hid hb6; clear hL6 hb6)
  have HB56 := Lib.hid (((Below.refl _ w5).alloc (Nat.le_refl _) (.cells #[.int .i64 KO, .int .i64 0, .slice A5 NR c5] 26)).trans (HB6.out.mono (by simp)))
  have pA6 := (HB6.out.block w5.heap.size (by simp)).trans (heap_alloc_new w5 (.cells #[.int .i64 KO, .int .i64 0, .slice A5 NR c5] 26))
  have PA6 := Lib.hid pA6
  clear pA6 x0 x1 x0' x1' q0 q1 q2 r0 r1 r2 r0' r1' r2'
  have hmay := fun W => rMay_any a0 W
  obtain ⟨en, kn, hnew, hcase⟩ : ∃ en kn : Int, (∀ W, Calls Try.prog 18 #[.int .i64 a0] W fun e w' => e = .returned (.tuple #[.agg #[.int .i64 kn, .int .i64 0, .slice none 0 0], .int .i64 en]) ∧ Below W.heap.size W w') ∧ ((may a0 = true ∧ en = 0 ∧ kn = a0) ∨ (may a0 = false ∧ en = 9 ∧ kn = 0)) := by
    cases hm : may a0 with
    | true => exact ⟨0, a0, fun W => new_may a0 hm W, .inl ⟨rfl, rfl, rfl⟩⟩
    | false => exact ⟨9, 0, fun W => new_not a0 hm W, .inr ⟨rfl, rfl, rfl⟩⟩
  obtain ⟨mb, hmb⟩ : ∃ x, may a0 = x := ⟨_, rfl⟩
  simp only [hmb] at hmay
  rw [hmb] at hcase
  have HMAY := Lib.hid hmay
  have HNEW := Lib.hid hnew
  clear hmay hnew hmb
  go_upto_region 6 with (go_at_call 18; refine (HNEW.out _).mono ?_; rintro e w7 ⟨rfl, hb7⟩; have HB7 := Lib.hid hb7; clear hb7)
  have HB67 := Lib.hid (((Below.refl _ w6).alloc (Nat.le_refl _) (.cells #[.int .i64 KO, .int .i64 0, .slice A6 NR c6] 27)).trans (HB7.out.mono (by simp)))
  have pB7 := (HB7.out.block w6.heap.size (by simp)).trans (heap_alloc_new w6 (.cells #[.int .i64 KO, .int .i64 0, .slice A6 NR c6] 27))
  obtain ⟨W8, hW8⟩ : ∃ W, w7.alloc (.cells #[.int .i64 kn, .int .i64 0, .slice none 0 0] 26) = W := ⟨_, rfl⟩
  have hB8 : Below w7.heap.size w7 W8 := by rw [← hW8]; exact (Below.refl _ w7).alloc (Nat.le_refl _) _
  have pN : W8.heap[w7.heap.size]? = some (.cells #[.int .i64 kn, .int .i64 0, .slice none 0 0] 26) := by rw [← hW8]; exact heap_alloc_new w7 _
  rw [hW8]
  have b58 := thn (thn HB56.out HB67.out) hB8
  have pB := (hB8.block _ (lt_of pB7)).trans pB7
  have pA := ((thn HB67.out hB8).block _ (lt_of PA6.out)).trans PA6.out
  have pH := (b58.block _ (lt_of ((HB5.out.block _ l0).trans P0.out))).trans ((HB5.out.block _ l0).trans P0.out)
  have pX := (b58.block _ (lt_of ((HB5.out.block _ l1).trans P1.out))).trans ((HB5.out.block _ l1).trans P1.out)
  have hL5 := HL5.out.grow b58
  have hL6 := HL6.out.grow (thn HB67.out hB8)
  have hLA := (HLA4.out.grow HB5.out).grow b58
  have hLB := (HLB4.out.grow HB5.out).grow b58
  have s1' : ∀ W : World, Below W8.heap.size W8 W → Calls Try.prog 13 #[.agg #[.int .i64 KO, .int .i64 0, .slice A5 NR c5], .agg #[.int .i64 KO, .int .i64 0, .slice A6 NR c6]] W fun e w' => e = .returned (.bool true) ∧ Below W.heap.size W w' := by
    intro W hW
    have := lsame_any KO 0 KO 0 R R HRM.out.1 HRM.out.2 W A5 A6 c5 c6 (by rw [HNR.out]; exact hL5.grow hW) (by rw [HNR.out]; exact hL6.grow hW)
    rw [show sameB KO 0 KO 0 R R = true by simp [sameB], HNR.out] at this
    exact this
  have s2' : ∀ W : World, Below W8.heap.size W8 W → Calls Try.prog 13 #[.agg #[.int .i64 (kk : Int), .int .i64 0, .slice A N c], .agg #[.int .i64 (kk : Int), .int .i64 0, .slice A2 N c2]] W fun e w' => e = .returned (.bool true) ∧ Below W.heap.size W w' := by
    intro W hW
    have := lsame_any (kk : Int) 0 (kk : Int) 0 L L (by rw [HN.out]; omega) (fun i => by have := HLEV.out i; omega) W A A2 c c2 (by rw [HN.out]; exact hLA.grow hW) (by rw [HN.out]; exact hLB.grow hW)
    rw [show sameB (kk : Int) 0 (kk : Int) 0 L L = true by simp [sameB], HN.out] at this
    exact this
  have s3' : ∀ W : World, Calls Try.prog 13 #[.agg #[.int .i64 kn, .int .i64 0, .slice none 0 0], .agg #[.int .i64 kn, .int .i64 0, .slice none 0 0]] W fun e w' => e = .returned (.bool true) ∧ Below W.heap.size W w' := by
    intro W
    have := lsame_any kn 0 kn 0 [] [] (by simp) (fun i => by simp [lev]) W none none 0 0 Levs.nil Levs.nil
    rw [show sameB kn 0 kn 0 [] [] = true by simp [sameB]] at this
    exact this
  have S1 := Lib.hid s1'
  have S2 := Lib.hid s2'
  have S3 := Lib.hid s3'
  have PH := Lib.hid pH
  have PX := Lib.hid pX
  have PN := Lib.hid pN
  have HB8 := Lib.hid (thn (thn HB4.out HB5.out) b58)
  obtain ⟨m0, m1, m2⟩ := box3 pA
  obtain ⟨n0, n1, n2⟩ := box3 pB
  have lA := lt_of pA
  have lB := lt_of pB
  clear s1' s2' s3' pH pX pN pA pB pB7 hL5 hL6 hLA hLB hB8 hW8 b58 HADD HRADD htot lx lx' l0 l1 l1'
  go_upto_region 7 with (go_at_call 19; (with_reducible refine (HMAY.out _).mono ?_); rintro e wm ⟨rfl, rfl⟩)
  rcases hcase with ⟨rfl, rfl, rfl⟩ | ⟨rfl, rfl, rfl⟩
  · go_wp2_with (first
    | (go_at_call 13; (with_reducible refine (S1.out W8 (Below.refl _ _)).mono ?_); rintro e wx ⟨rfl, hbx⟩; have t0 := (hbx.block _ (lt_of PH.out)).trans PH.out; have t1 := (hbx.block _ (lt_of PX.out)).trans PX.out; obtain ⟨f0, f1, f2⟩ := box3 t0; obtain ⟨g0, g1, g2⟩ := box3 t1; have lf := lt_of t0; have lg := lt_of t1; have HX8 := Lib.hid hbx; clear t0 t1 hbx)
    | (go_at_call 13; (with_reducible refine (S2.out wx HX8.out).mono ?_); rintro e wy ⟨rfl, hby⟩; have t0 := ((thn HX8.out hby).block _ (lt_of PN.out)).trans PN.out; obtain ⟨i0, i1, i2⟩ := box3 t0; have li := lt_of t0; have HN8 := Lib.hid t0; have HY8 := Lib.hid (thn HX8.out hby); clear t0 hby)
    | (go_at_call 13; (with_reducible refine (S3.out wy).mono ?_); rintro e wz ⟨rfl, hbz⟩; have t0 := (hbz.block _ li).trans HN8.out; obtain ⟨j0, j1, j2⟩ := box3 t0; have lj := lt_of t0; have HZ8 := Lib.hid (thn HY8.out hbz); clear t0 hbz))
    go_ret
    exact ⟨rfl, thn HB8.out HZ8.out⟩
  · by_cases hz : a0 = 0
    · subst hz
      go_wp2_with (first
      | (go_at_call 13; (with_reducible refine (S1.out W8 (Below.refl _ _)).mono ?_); rintro e wx ⟨rfl, hbx⟩; have t0 := (hbx.block _ (lt_of PH.out)).trans PH.out; have t1 := (hbx.block _ (lt_of PX.out)).trans PX.out; obtain ⟨f0, f1, f2⟩ := box3 t0; obtain ⟨g0, g1, g2⟩ := box3 t1; have lf := lt_of t0; have lg := lt_of t1; have HX8 := Lib.hid hbx; clear t0 t1 hbx)
      | (go_at_call 13; (with_reducible refine (S2.out wx HX8.out).mono ?_); rintro e wy ⟨rfl, hby⟩; have t0 := ((thn HX8.out hby).block _ (lt_of PN.out)).trans PN.out; obtain ⟨i0, i1, i2⟩ := box3 t0; have li := lt_of t0; have HN8 := Lib.hid t0; have HY8 := Lib.hid (thn HX8.out hby); clear t0 hby)
      | (go_at_call 13; (with_reducible refine (S3.out wy).mono ?_); rintro e wz ⟨rfl, hbz⟩; have t0 := (hbz.block _ li).trans HN8.out; obtain ⟨j0, j1, j2⟩ := box3 t0; have lj := lt_of t0; have HZ8 := Lib.hid (thn HY8.out hbz); clear t0 hbz))
      go_ret
      exact ⟨rfl, thn HB8.out HZ8.out⟩
    · have dz : ((0 : Int) == a0) = false := by rw [beq_eq_false_iff_ne]; omega
      go_wp2_with (first
      | (go_at_call 13; (with_reducible refine (S1.out W8 (Below.refl _ _)).mono ?_); rintro e wx ⟨rfl, hbx⟩; have t0 := (hbx.block _ (lt_of PH.out)).trans PH.out; have t1 := (hbx.block _ (lt_of PX.out)).trans PX.out; obtain ⟨f0, f1, f2⟩ := box3 t0; obtain ⟨g0, g1, g2⟩ := box3 t1; have lf := lt_of t0; have lg := lt_of t1; have HX8 := Lib.hid hbx; clear t0 t1 hbx)
      | (go_at_call 13; (with_reducible refine (S2.out wx HX8.out).mono ?_); rintro e wy ⟨rfl, hby⟩; have t0 := ((thn HX8.out hby).block _ (lt_of PN.out)).trans PN.out; obtain ⟨i0, i1, i2⟩ := box3 t0; have li := lt_of t0; have HN8 := Lib.hid t0; have HY8 := Lib.hid (thn HX8.out hby); clear t0 hby)
      | (go_at_call 13; (with_reducible refine (S3.out wy).mono ?_); rintro e wz ⟨rfl, hbz⟩; have t0 := (hbz.block _ li).trans HN8.out; obtain ⟨j0, j1, j2⟩ := box3 t0; have lj := lt_of t0; have HZ8 := Lib.hid (thn HY8.out hbz); clear t0 hbz))
      go_ret
      exact ⟨rfl, thn HB8.out HZ8.out⟩

set_option maxRecDepth 100000 in
theorem lifted (os : Os) (started : os.Started) (H : Type) (enc : TypeId × Value → H) :
    ReturnsInHanded {} Try.checked os 4 .any (Rows.histRefusesSpec.pre6 enc Try.prog Try.f4 Rows.histRefusesRow.domain false) (Rows.histRefusesSpec.post enc Try.prog Try.f4 false true false false) := by
  refine returnsInHanded_of_change (C := Try.checked) own started (by kernel_rfl) Try.func4
    (ChangeSpec.witness6 (enc := enc) (C := Try.checked) false ⟨#[], #[.int .i64 0, .slice none 0 0, .agg #[.int .u64 0, .int .u64 0]], []⟩ 8 (by kernel_rfl) (by kernel_rfl) (by kernel_rfl) (by kernel_rfl)) ?_
  intro W base args ds gs before hval0 hW hcnd _
  have hval : ∀ (j : Nat) t v, Try.f4.params[j]? = some t → args[j]? = some v → Value.okWide Try.prog W .any base t v := hval0
  have hW' := hW
  obtain ⟨p, q, hA0, hV, rfl, hfz, hnd⟩ := hW
  have hA : DataW.TrodAll enc Try.prog W 0 (fun _ => true) true Try.f4.params.toList args.toList ds p := hA0
  rw [Try.params4] at hA hval
  obtain ⟨v0, vs0, d0, ds0, p0, q0, hargs, rfl, rfl, h0, r0⟩ := trodAll_cons hA
  obtain ⟨v1, vs1, d1, ds1, p1, q1, rfl, rfl, rfl, h1, r1⟩ := trodAll_cons r0
  obtain ⟨v2, vs2, d2, ds2, p2, q2, rfl, rfl, rfl, h2, r2⟩ := trodAll_cons r1
  obtain ⟨rfl, rfl, rfl⟩ := trodAll_nil r2
  obtain rfl : args = #[v0, v1, v2] := by cases args; simp_all
  obtain ⟨rfl, rfl⟩ := trodVars_none hV
  obtain ⟨a0, rfl, rfl, rfl, w0⟩ := open_int Try.underlying3 (hval 0 3 v0 rfl rfl) h0
  obtain ⟨a1, len1, cap1, rfl⟩ := okWide_slice Try.underlying22 (hval 1 22 v1 rfl rfl)
  have k1 := h1
  have lt1 : ∀ x ∈ p1, x.block < W.heap.size := by obtain ⟨m, hm⟩ := k1; exact DataW.trod_lt m _ _ _ hm
  obtain ⟨z1, w1⟩ := Op.open_flats (f := 9) (ks := [.u64, .u64]) Try.underlying22 (by kernel_rfl) (by kernel_rfl) (by decide) h1
  have k2 := h2
  have lt2 : ∀ x ∈ p2, x.block < W.heap.size := by obtain ⟨m, hm⟩ := k2; exact DataW.trod_lt m _ _ _ hm
  obtain ⟨c2, rfl, fit2⟩ := Op.open_flat (f := 9) (ks := [.u64, .u64]) (by kernel_rfl) (by kernel_rfl) (hval 2 38 v2 rfl rfl) h2
  obtain ⟨a2_0, a2_1, rfl, w2_0, w2_1⟩ := fit2_of fit2
  clear hA0 hval0
  refine (walk a0 a1 len1 cap1 z1 a2_0 a2_1 W w0 w1 w2_0 w2_1).mono fun e W' ⟨he, bel⟩ => ?_
  subst he
  exact ⟨_, rfl, _, _, _, [], _, [], hW', trodAll_mk1 (shut_bool Try.underlying4 _), (trodAll_cons_mk (shut_int Try.underlying3 w0) (trodAll_cons_mk (Below.trod laidOut (by kernel_rfl) (of_decide_eq_true (by kernel_rfl)) k1 bel lt1) (trodAll_cons_mk (Below.trod laidOut (by kernel_rfl) (of_decide_eq_true (by kernel_rfl)) k2 bel lt2) trodAll_mk0))), rfl, bel.frame _, fun h => by cases h⟩

theorem over : Rows.histRefusesRow.holds Try.pinned (OpenSpec.ofChange Rows.histRefusesSpec) :=
  OpenClaim.holds_of_wide 4 Try.f4 rfl rfl rfl rfl rfl rfl rfl ⟨rfl, rfl, rfl, rfl, rfl⟩ rfl rfl rfl rfl rfl (by kernel_rfl) Try.func4 (by kernel_rfl)
    (of_decide_eq_true (by kernel_rfl)) (by unfold Func.isWrapper; first | (rw [if_pos (by decide +kernel)]; kernel_rfl) | (rw [if_neg (by decide +kernel)]; exact ⟨rfl, rfl⟩))
    (fun os started H enc _ => lifted os started H enc)

/-- The statement. -/
theorem proved : Rows.HistRefusesSaid := over
#print axioms proved
end Go.Proofs.Ytimlmaincblkoaa.histRefuses
