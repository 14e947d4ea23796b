/-
  'skylight/skylightlaw06.HistSame' returns true for every input, and the input reads afterwards as it read before. Conditions: none.
-/
import Derived.Test.YtimlmaincblkoaaRows
import Derived.WalkKit
import Derived.ProofKit
import Derived.OpenShut
import Derived.ShutString
import Derived.ChangeOld
import Derived.Below
import Derived.Test.YtimlmaincblkoaaOpen
import Derived.Test.YtimlmaincblkoaaHPlayed
import Derived.Test.YtimlmaincblkoaaHAwk
namespace Go.Proofs.Ytimlmaincblkoaa.histSame
open Go.Proofs Go.Proofs.Rn Go.Proofs.Lm Go.Proofs.Op Go.Proofs.Rw Go.Proofs.Lh Go.Proofs.Rf
open Go.ChangeShapes Go.WideShapes Go.ChangeAt Go.RowKit
open Go.ChangeMaps (open_string shut_string)
set_option linter.unusedVariables false

theorem own : ownKnob Try.prog.godebug = none := by kernel_rfl
theorem laidOut : laidOutB Try.prog = true := by kernel_rfl

/-- A slice of integers that came in: nil, or a row of cells of its capacity, each fitting its kind. -/
def IsRow (k : IntKind) (w : World) (a : Option Addr) (len cap : Nat) (zs : List Int) : Prop :=
  (a = none ∧ len = 0 ∧ cap = 0 ∧ zs = []) ∨
  ∃ x, a = some x ∧ len ≤ cap ∧ cap ≤ maxLen ∧ zs.length = cap ∧ (∀ i, i < zs.length → w.cell? (x.add i) = some (.int k (zs.getD i 0))) ∧ ∀ n ∈ zs, (Lit.int k n).wf = true

theorem fit0_of {c : List Value} (h : Op.Fits [.i64, .i64] c) : ∃ x0 x1 : Int, c = [.int .i64 x0, .int .i64 x1] ∧ (Lit.int .i64 x0).wf = true ∧ (Lit.int .i64 x1).wf = true := by
  cases c with
  | nil => exact h.elim
  | cons y0 c =>
  have g0 := h.1
  replace h := h.2
  cases c with
  | nil => exact h.elim
  | cons y1 c =>
  have g1 := h.1
  replace h := h.2
  cases c with
  | cons y c => exact h.elim
  | nil =>
  obtain ⟨x0, e0, e0w⟩ := g0
  obtain ⟨x1, e1, e1w⟩ := g1
  exact ⟨x0, x1, by rw [e0, e1], e0w, e1w⟩

open Go.RowKit Go.Shelf Go.Proofs.Rw Go.Proofs.Lh Go.Proofs.Rf

set_option maxRecDepth 100000 in
set_option maxHeartbeats 4000000 in
theorem walk (a0_0 a0_1 : Int) (a1 : Option Addr) (len1 cap1 : Nat) (z1 : Nat → Nat → Int) (a2 : Option Addr) (len2 cap2 : Nat) (z2 : Nat → Nat → Int) (w : World) (w0_0 : (Lit.int .i64 a0_0).wf = true) (w0_1 : (Lit.int .i64 a0_1).wf = true) (w1 : Op.FlatRow [.u64, .u64] w a1 len1 cap1 z1) (w2 : Op.FlatRow [.u64, .u64] w a2 len2 cap2 z2) :
    Calls Try.prog 8 #[.agg #[.int .i64 a0_0, .int .i64 a0_1], .slice a1 len1 cap1, .slice a2 len2 cap2] w fun e w' => e = .returned (.bool true) ∧ Below w.heap.size w w' := by
  obtain ⟨ds, hdl1, hdL1, hdB1⟩ := sp_of_row w1
  have hD1 : Deeds w a1 len1 cap1 ds := ⟨hdl1, hdL1, hdB1⟩
  obtain ⟨es, hdl2, hdL2, hdB2⟩ := sp_of_row w2
  have hD2 : Deeds w a2 len2 cap2 es := ⟨hdl2, hdL2, hdB2⟩
  obtain ⟨b00, b01⟩ := bounds_i64 w0_0
  obtain ⟨b10, b11⟩ := bounds_i64 w0_1
  have hk1 := kOf_le a0_0
  have hdn1 : doneN ds ≤ ds.length := by unfold doneN; omega
  have hmd1 : Made (kOf a0_0) (play (kOf a0_0) ds (doneN ds)).2 := play_made hk1.1 (by omega) ds _ hdn1
  have hma1 := fun (W : World) (hW : Below w.heap.size w W) => rmade_any a0_0 b00 (by omega) ds W a1 len1 cap1 (hD1.grow hW)
  obtain ⟨k1, hkk1⟩ : ∃ x, kOf a0_0 = x := ⟨_, rfl⟩
  rw [hkk1] at hmd1
  simp only [hkk1] at hma1
  obtain ⟨L1, hL1⟩ : ∃ x, (play k1 ds (doneN ds)).2 = x := ⟨_, rfl⟩
  rw [hL1] at hmd1
  simp only [hL1] at hma1
  obtain ⟨N1, hN1⟩ : ∃ x, L1.length = x := ⟨_, rfl⟩
  simp only [hN1] at hma1
  have hln1 : N1 ≤ 53 := by have := hmd1.len; omega
  have hlev1 : ∀ i, (lev L1 i).length ≤ 10000000 := fun i => by have := hmd1.lev i; omega
  have HM1 := Lib.hid hma1
  have HN1 := Lib.hid hN1
  have HLV1 := Lib.hid hlev1
  clear hma1 hmd1 hN1 hlev1 hD1 hdl1 hdL1 hdB1 hkk1 hL1 w1 hdn1 hk1
  have hk2 := kOf_le a0_1
  have hdn2 : doneN es ≤ es.length := by unfold doneN; omega
  have hmd2 : Made (kOf a0_1) (play (kOf a0_1) es (doneN es)).2 := play_made hk2.1 (by omega) es _ hdn2
  have hma2 := fun (W : World) (hW : Below w.heap.size w W) => rmade_any a0_1 b10 (by omega) es W a2 len2 cap2 (hD2.grow hW)
  obtain ⟨k2, hkk2⟩ : ∃ x, kOf a0_1 = x := ⟨_, rfl⟩
  rw [hkk2] at hmd2
  simp only [hkk2] at hma2
  obtain ⟨L2, hL2⟩ : ∃ x, (play k2 es (doneN es)).2 = x := ⟨_, rfl⟩
  rw [hL2] at hmd2
  simp only [hL2] at hma2
  obtain ⟨N2, hN2⟩ : ∃ x, L2.length = x := ⟨_, rfl⟩
  simp only [hN2] at hma2
  have hln2 : N2 ≤ 53 := by have := hmd2.len; omega
  have hlev2 : ∀ i, (lev L2 i).length ≤ 10000000 := fun i => by have := hmd2.lev i; omega
  have HM2 := Lib.hid hma2
  have HN2 := Lib.hid hN2
  have HLV2 := Lib.hid hlev2
  clear hma2 hmd2 hN2 hlev2 hD2 hdl2 hdL2 hdB2 hkk2 hL2 w2 hdn2 hk2
  clear w0_0 w0_1
  have hbx : (w.alloc (.cells #[.int .i64 a0_0, .int .i64 a0_1] 55)).heap[w.heap.size]? = some (.cells #[.int .i64 a0_0, .int .i64 a0_1] 55) := heap_alloc_new w _
  have HBX := Lib.hid hbx
  clear hbx
  go_enter Try.func8, Try.ntmps8
  go_upto_region 4 with (first
    | (go_at_call 9; refine (awake_any _).mono ?_; rintro e wa ⟨rfl, ha⟩; have t := (ha.block w.heap.size (by simp)).trans HBX.out; obtain ⟨x0, x1, -, -⟩ := box2 t; have lx := lt_of t; have HX := Lib.hid t; have HWA := Lib.hid (((Below.refl _ w).alloc (Nat.le_refl _) _).trans (ha.mono (by simp))); clear ha t)
    | (go_at_call 23; (with_reducible refine (HM1.out wa HWA.out).mono ?_); rintro e wb ⟨A, c, rfl, hL, hb⟩; have t := (hb.block _ lx).trans HX.out; obtain ⟨x0', x1', -, -⟩ := box2 t; have lx' := lt_of t; have HL1 := Lib.hid hL; have HWB := Lib.hid (thn HWA.out hb); clear hL hb t)
    | (go_at_call 23; refine (HM2.out _ (HWB.out.alloc HWB.out.size _)).mono ?_; rintro e wc ⟨A2, c2, rfl, hL2, hb2⟩; have t := (hb2.block wb.heap.size (by simp)).trans (heap_alloc_new wb _); obtain ⟨s0, s1, s2⟩ := box3 t; have ls := lt_of t; have HS := Lib.hid t; have HL2 := Lib.hid hL2; have HB2 := Lib.hid (((Below.refl _ wb).alloc (Nat.le_refl _) _).trans (hb2.mono (by simp))); clear hL2 hb2 t))
  go_upto_region 6 with (fail)
  obtain ⟨W6, hW6, hsz6, p0, p1, hB6⟩ := heap_two wc (.cells #[.int .i64 (k2 : Int), .int .i64 0, .slice A2 N2 c2] 27) (.cells #[.int .i64 (k1 : Int), .int .i64 1, .slice A N1 c] 27)
  rw [← hW6]
  have pY := (hB6.block _ ls).trans HS.out
  obtain ⟨y0, y1, y2⟩ := box3 pY
  obtain ⟨z0, z1, z2⟩ := box3 p0
  obtain ⟨v0, v1, v2⟩ := box3 p1
  have Y0 := Lib.hid y0
  have Y1 := Lib.hid y1
  have Y2 := Lib.hid y2
  have Z0 := Lib.hid z0
  have Z1 := Lib.hid z1
  have Z2 := Lib.hid z2
  have X0 := Lib.hid v0
  have X1 := Lib.hid v1
  have X2 := Lib.hid v2
  have LY := Lib.hid (lt_of pY)
  have LZ := Lib.hid (lt_of p0)
  have LX := Lib.hid (lt_of p1)
  have aL := Lib.hid ((HL1.out.grow HB2.out).grow hB6)
  have bL := Lib.hid (HL2.out.grow hB6)
  have aN := HN1
  have bN := HN2
  have HB6 := Lib.hid (thn (thn HWB.out HB2.out) hB6)
  obtain ⟨q, hq⟩ : ∃ q, sameB (k1 : Int) 0 (k2 : Int) 0 L1 L2 = q := ⟨_, rfl⟩
  have s1' : ∀ W : World, Grows W6 W → Calls Try.prog 24 #[.agg #[.int .i64 (k1 : Int), .int .i64 0, .slice A N1 c], .agg #[.int .i64 (k2 : Int), .int .i64 0, .slice A2 N2 c2]] W fun e w' => e = .returned (.bool q) ∧ Below W.heap.size W w' := by
    intro W hW
    have := hsame_any (k1 : Int) 0 (k2 : Int) 0 L1 L2 (by rw [aN.out]; omega) HLV2.out W A A2 c c2 (by rw [aN.out]; exact aL.out.grow hW) (by rw [bN.out]; exact bL.out.grow hW)
    rw [hq, aN.out, bN.out] at this
    exact this
  have s2' : ∀ W : World, Grows W6 W → Calls Try.prog 26 #[.agg #[.int .i64 (k1 : Int), .int .i64 0, .slice A N1 c], .agg #[.int .i64 (k2 : Int), .int .i64 0, .slice A2 N2 c2]] W fun e w' => e = .returned (.bool q) ∧ Below W.heap.size W w' := by
    intro W hW
    have := rsame_any (k1 : Int) 0 (k2 : Int) 0 L1 L2 (by rw [aN.out]; omega) HLV1.out W A A2 c c2 (by rw [aN.out]; exact aL.out.grow hW) (by rw [bN.out]; exact bL.out.grow hW)
    rw [hq, aN.out, bN.out] at this
    exact this
  have s3' : ∀ W : World, Grows W6 W → Calls Try.prog 24 #[.agg #[.int .i64 (k1 : Int), .int .i64 0, .slice A N1 c], .agg #[.int .i64 (k1 : Int), .int .i64 1, .slice A N1 c]] W fun e w' => e = .returned (.bool false) ∧ Below W.heap.size W w' := by
    intro W hW
    have := hsame_any (k1 : Int) 0 (k1 : Int) 1 L1 L1 (by rw [aN.out]; omega) HLV1.out W A A c c (by rw [aN.out]; exact aL.out.grow hW) (by rw [aN.out]; exact aL.out.grow hW)
    rw [show sameB (k1 : Int) 0 (k1 : Int) 1 L1 L1 = false by simp [sameB], aN.out] at this
    exact this
  have s4' : ∀ W : World, Grows W6 W → Calls Try.prog 24 #[.agg #[.int .i64 (k1 : Int), .int .i64 1, .slice A N1 c], .agg #[.int .i64 (k1 : Int), .int .i64 1, .slice A N1 c]] W fun e w' => e = .returned (.bool true) ∧ Below W.heap.size W w' := by
    intro W hW
    have := hsame_any (k1 : Int) 1 (k1 : Int) 1 L1 L1 (by rw [aN.out]; omega) HLV1.out W A A c c (by rw [aN.out]; exact aL.out.grow hW) (by rw [aN.out]; exact aL.out.grow hW)
    rw [show sameB (k1 : Int) 1 (k1 : Int) 1 L1 L1 = true by simp [sameB], aN.out] at this
    exact this
  have S1 := Lib.hid s1'
  have S2 := Lib.hid s2'
  have S3 := Lib.hid s3'
  have S4 := Lib.hid s4'
  clear s1' s2' s3' s4' hq y0 y1 y2 z0 z1 z2 v0 v1 v2 p0 p1 pY hB6 hW6 x0 x1 x0' x1' s0 s1 s2 ls lx lx'
  refine region_facts0 (fr := ?frA) 27 [25, 26, 27, 28, 29, 30, 31, 32, 33, 34, 35, 36, 37, 38, 39, 40, 41, 42, 43, 44, 45, 46, 47, 48, 49, 50, 51] (fun i v W => match i with
      | 0 => v = .bool true
      | 1 => v = .bool true
      | 2 => v = .agg #[.int .i64 (k1 : Int), .int .i64 0, .slice A N1 c]
      | 3 => v = .agg #[.int .i64 (k1 : Int), .int .i64 0, .slice A N1 c]
      | 4 => v = .agg #[.int .i64 (k2 : Int), .int .i64 0, .slice A2 N2 c2]
      | 5 => v = .agg #[.int .i64 (k2 : Int), .int .i64 0, .slice A2 N2 c2]
      | 6 => v = .bool q
      | 7 => v = .agg #[.int .i64 (k1 : Int), .int .i64 0, .slice A N1 c]
      | 8 => v = .agg #[.int .i64 (k2 : Int), .int .i64 0, .slice A2 N2 c2]
      | 9 => v = .bool q
      | 10 => v = .bool true
      | 11 => v = .bool true
      | 12 => v = .bool true
      | 13 => v = .agg #[.int .i64 (k1 : Int), .int .i64 0, .slice A N1 c]
      | 14 => v = .agg #[.int .i64 (k1 : Int), .int .i64 0, .slice A N1 c]
      | 15 => v = .agg #[.int .i64 (k1 : Int), .int .i64 1, .slice A N1 c]
      | 16 => v = .agg #[.int .i64 (k1 : Int), .int .i64 1, .slice A N1 c]
      | 17 => v = .bool false
      | 18 => v = .bool true
      | 19 => v = .bool true
      | 20 => v = .bool true
      | 21 => v = .agg #[.int .i64 (k1 : Int), .int .i64 1, .slice A N1 c]
      | 22 => v = .agg #[.int .i64 (k1 : Int), .int .i64 1, .slice A N1 c]
      | 23 => v = .agg #[.int .i64 (k1 : Int), .int .i64 1, .slice A N1 c]
      | 24 => v = .agg #[.int .i64 (k1 : Int), .int .i64 1, .slice A N1 c]
      | 25 => v = .bool true
      | 26 => v = .bool true
      | _ => True) rfl ?hBA (by kernel_rfl) (by kernel_rfl) (by kernel_rfl) ?hfrA ?hFA ?hopA ?htailA
  case hBA => kernel_rfl
  case hfrA =>
    intro us
    simp only [putL]
    go_simp
    rfl
  case hFA =>
    intro i v W W' hG h
    match i with
    | 0 => exact h
    | 1 => exact h
    | 2 => exact h
    | 3 => exact h
    | 4 => exact h
    | 5 => exact h
    | 6 => exact h
    | 7 => exact h
    | 8 => exact h
    | 9 => exact h
    | 10 => exact h
    | 11 => exact h
    | 12 => exact h
    | 13 => exact h
    | 14 => exact h
    | 15 => exact h
    | 16 => exact h
    | 17 => exact h
    | 18 => exact h
    | 19 => exact h
    | 20 => exact h
    | 21 => exact h
    | 22 => exact h
    | 23 => exact h
    | 24 => exact h
    | 25 => exact h
    | 26 => exact h
    | n + 27 => trivial
  case hopA =>
    intro i hi us W2 hG hd
    match i, hi with
    | 0, _ =>
      clear hd
      exact hop_value rfl rfl rfl (v := .bool true) (W' := W2) (by go_simp) (Grows.refl _) rfl
    | 1, _ =>
      have h0 : us 0 = .bool true := hd 0 (by omega) (by kernel_rfl)
      clear hd
      exact hop_value rfl rfl rfl (v := .bool true) (W' := W2) (by go_simp) (Grows.refl _) rfl
    | 2, _ =>
      have h1 : us 1 = .bool true := hd 1 (by omega) (by kernel_rfl)
      clear hd
      rw [h1]
      have q0 := (hG.cell (b := wb.heap.size) (o := 0) LY.out).trans Y0.out
      have q0l := Nat.lt_of_lt_of_le LY.out hG.size
      have q1 := (hG.cell (b := wb.heap.size) (o := 1) LY.out).trans Y1.out
      have q1l := Nat.lt_of_lt_of_le LY.out hG.size
      have q2 := (hG.cell (b := wb.heap.size) (o := 2) LY.out).trans Y2.out
      have q2l := Nat.lt_of_lt_of_le LY.out hG.size
      exact hop_value rfl rfl rfl (v := .agg #[.int .i64 (k1 : Int), .int .i64 0, .slice A N1 c]) (W' := W2) (by go_simp) (Grows.refl _) rfl
    | 3, _ =>
      have h1 : us 1 = .bool true := hd 1 (by omega) (by kernel_rfl)
      have h2 : us 2 = .agg #[.int .i64 (k1 : Int), .int .i64 0, .slice A N1 c] := hd 2 (by omega) (by kernel_rfl)
      clear hd
      rw [h1]
      refine hop_call rfl rfl rfl (f := 25) (args := #[.agg #[.int .i64 (k1 : Int), .int .i64 0, .slice A N1 c]]) (by go_simp) ?_
      refine (lmade_any _ _ _ _ _ W2).mono ?_
      rintro e W' ⟨rfl, hb⟩
      exact ⟨_, rfl, hb, rfl⟩
    | 4, _ =>
      have h1 : us 1 = .bool true := hd 1 (by omega) (by kernel_rfl)
      clear hd
      rw [h1]
      have q0 := (hG.cell (b := wc.heap.size) (o := 0) LZ.out).trans Z0.out
      have q0l := Nat.lt_of_lt_of_le LZ.out hG.size
      have q1 := (hG.cell (b := wc.heap.size) (o := 1) LZ.out).trans Z1.out
      have q1l := Nat.lt_of_lt_of_le LZ.out hG.size
      have q2 := (hG.cell (b := wc.heap.size) (o := 2) LZ.out).trans Z2.out
      have q2l := Nat.lt_of_lt_of_le LZ.out hG.size
      exact hop_value rfl rfl rfl (v := .agg #[.int .i64 (k2 : Int), .int .i64 0, .slice A2 N2 c2]) (W' := W2) (by go_simp) (Grows.refl _) rfl
    | 5, _ =>
      have h1 : us 1 = .bool true := hd 1 (by omega) (by kernel_rfl)
      have h4 : us 4 = .agg #[.int .i64 (k2 : Int), .int .i64 0, .slice A2 N2 c2] := hd 4 (by omega) (by kernel_rfl)
      clear hd
      rw [h1]
      refine hop_call rfl rfl rfl (f := 25) (args := #[.agg #[.int .i64 (k2 : Int), .int .i64 0, .slice A2 N2 c2]]) (by go_simp) ?_
      refine (lmade_any _ _ _ _ _ W2).mono ?_
      rintro e W' ⟨rfl, hb⟩
      exact ⟨_, rfl, hb, rfl⟩
    | 6, _ =>
      have h1 : us 1 = .bool true := hd 1 (by omega) (by kernel_rfl)
      have h3 : us 3 = .agg #[.int .i64 (k1 : Int), .int .i64 0, .slice A N1 c] := hd 3 (by omega) (by kernel_rfl)
      have h5 : us 5 = .agg #[.int .i64 (k2 : Int), .int .i64 0, .slice A2 N2 c2] := hd 5 (by omega) (by kernel_rfl)
      clear hd
      rw [h1]
      refine hop_call rfl rfl rfl (f := 24) (args := #[.agg #[.int .i64 (k1 : Int), .int .i64 0, .slice A N1 c], .agg #[.int .i64 (k2 : Int), .int .i64 0, .slice A2 N2 c2]]) (by go_simp) ?_
      refine (S1.out W2 hG).mono ?_
      rintro e W' ⟨rfl, hb⟩
      exact ⟨_, rfl, hb, rfl⟩
    | 7, _ =>
      have h1 : us 1 = .bool true := hd 1 (by omega) (by kernel_rfl)
      clear hd
      rw [h1]
      have q0 := (hG.cell (b := wb.heap.size) (o := 0) LY.out).trans Y0.out
      have q0l := Nat.lt_of_lt_of_le LY.out hG.size
      have q1 := (hG.cell (b := wb.heap.size) (o := 1) LY.out).trans Y1.out
      have q1l := Nat.lt_of_lt_of_le LY.out hG.size
      have q2 := (hG.cell (b := wb.heap.size) (o := 2) LY.out).trans Y2.out
      have q2l := Nat.lt_of_lt_of_le LY.out hG.size
      exact hop_value rfl rfl rfl (v := .agg #[.int .i64 (k1 : Int), .int .i64 0, .slice A N1 c]) (W' := W2) (by go_simp) (Grows.refl _) rfl
    | 8, _ =>
      have h1 : us 1 = .bool true := hd 1 (by omega) (by kernel_rfl)
      clear hd
      rw [h1]
      have q0 := (hG.cell (b := wc.heap.size) (o := 0) LZ.out).trans Z0.out
      have q0l := Nat.lt_of_lt_of_le LZ.out hG.size
      have q1 := (hG.cell (b := wc.heap.size) (o := 1) LZ.out).trans Z1.out
      have q1l := Nat.lt_of_lt_of_le LZ.out hG.size
      have q2 := (hG.cell (b := wc.heap.size) (o := 2) LZ.out).trans Z2.out
      have q2l := Nat.lt_of_lt_of_le LZ.out hG.size
      exact hop_value rfl rfl rfl (v := .agg #[.int .i64 (k2 : Int), .int .i64 0, .slice A2 N2 c2]) (W' := W2) (by go_simp) (Grows.refl _) rfl
    | 9, _ =>
      have h1 : us 1 = .bool true := hd 1 (by omega) (by kernel_rfl)
      have h7 : us 7 = .agg #[.int .i64 (k1 : Int), .int .i64 0, .slice A N1 c] := hd 7 (by omega) (by kernel_rfl)
      have h8 : us 8 = .agg #[.int .i64 (k2 : Int), .int .i64 0, .slice A2 N2 c2] := hd 8 (by omega) (by kernel_rfl)
      clear hd
      rw [h1]
      refine hop_call rfl rfl rfl (f := 26) (args := #[.agg #[.int .i64 (k1 : Int), .int .i64 0, .slice A N1 c], .agg #[.int .i64 (k2 : Int), .int .i64 0, .slice A2 N2 c2]]) (by go_simp) ?_
      refine (S2.out W2 hG).mono ?_
      rintro e W' ⟨rfl, hb⟩
      exact ⟨_, rfl, hb, rfl⟩
    | 10, _ =>
      have h1 : us 1 = .bool true := hd 1 (by omega) (by kernel_rfl)
      have h6 : us 6 = .bool q := hd 6 (by omega) (by kernel_rfl)
      have h9 : us 9 = .bool q := hd 9 (by omega) (by kernel_rfl)
      clear hd
      rw [h1]
      exact hop_value rfl rfl rfl (v := .bool true) (W' := W2) (by go_simp) (Grows.refl _) rfl
    | 11, _ =>
      have h1 : us 1 = .bool true := hd 1 (by omega) (by kernel_rfl)
      have h10 : us 10 = .bool true := hd 10 (by omega) (by kernel_rfl)
      clear hd
      exact hop_value rfl rfl rfl (v := .bool true) (W' := W2) (by go_simp) (Grows.refl _) rfl
    | 12, _ =>
      have h11 : us 11 = .bool true := hd 11 (by omega) (by kernel_rfl)
      clear hd
      exact hop_value rfl rfl rfl (v := .bool true) (W' := W2) (by go_simp) (Grows.refl _) rfl
    | 13, _ =>
      have h12 : us 12 = .bool true := hd 12 (by omega) (by kernel_rfl)
      clear hd
      rw [h12]
      have q0 := (hG.cell (b := wb.heap.size) (o := 0) LY.out).trans Y0.out
      have q0l := Nat.lt_of_lt_of_le LY.out hG.size
      have q1 := (hG.cell (b := wb.heap.size) (o := 1) LY.out).trans Y1.out
      have q1l := Nat.lt_of_lt_of_le LY.out hG.size
      have q2 := (hG.cell (b := wb.heap.size) (o := 2) LY.out).trans Y2.out
      have q2l := Nat.lt_of_lt_of_le LY.out hG.size
      exact hop_value rfl rfl rfl (v := .agg #[.int .i64 (k1 : Int), .int .i64 0, .slice A N1 c]) (W' := W2) (by go_simp) (Grows.refl _) rfl
    | 14, _ =>
      have h12 : us 12 = .bool true := hd 12 (by omega) (by kernel_rfl)
      have h13 : us 13 = .agg #[.int .i64 (k1 : Int), .int .i64 0, .slice A N1 c] := hd 13 (by omega) (by kernel_rfl)
      clear hd
      rw [h12]
      refine hop_call rfl rfl rfl (f := 25) (args := #[.agg #[.int .i64 (k1 : Int), .int .i64 0, .slice A N1 c]]) (by go_simp) ?_
      refine (lmade_any _ _ _ _ _ W2).mono ?_
      rintro e W' ⟨rfl, hb⟩
      exact ⟨_, rfl, hb, rfl⟩
    | 15, _ =>
      have h12 : us 12 = .bool true := hd 12 (by omega) (by kernel_rfl)
      clear hd
      rw [h12]
      have q0 := (hG.cell (b := wc.heap.size + 1) (o := 0) LX.out).trans X0.out
      have q0l := Nat.lt_of_lt_of_le LX.out hG.size
      have q1 := (hG.cell (b := wc.heap.size + 1) (o := 1) LX.out).trans X1.out
      have q1l := Nat.lt_of_lt_of_le LX.out hG.size
      have q2 := (hG.cell (b := wc.heap.size + 1) (o := 2) LX.out).trans X2.out
      have q2l := Nat.lt_of_lt_of_le LX.out hG.size
      exact hop_value rfl rfl rfl (v := .agg #[.int .i64 (k1 : Int), .int .i64 1, .slice A N1 c]) (W' := W2) (by go_simp) (Grows.refl _) rfl
    | 16, _ =>
      have h12 : us 12 = .bool true := hd 12 (by omega) (by kernel_rfl)
      have h15 : us 15 = .agg #[.int .i64 (k1 : Int), .int .i64 1, .slice A N1 c] := hd 15 (by omega) (by kernel_rfl)
      clear hd
      rw [h12]
      refine hop_call rfl rfl rfl (f := 25) (args := #[.agg #[.int .i64 (k1 : Int), .int .i64 1, .slice A N1 c]]) (by go_simp) ?_
      refine (lmade_any _ _ _ _ _ W2).mono ?_
      rintro e W' ⟨rfl, hb⟩
      exact ⟨_, rfl, hb, rfl⟩
    | 17, _ =>
      have h12 : us 12 = .bool true := hd 12 (by omega) (by kernel_rfl)
      have h14 : us 14 = .agg #[.int .i64 (k1 : Int), .int .i64 0, .slice A N1 c] := hd 14 (by omega) (by kernel_rfl)
      have h16 : us 16 = .agg #[.int .i64 (k1 : Int), .int .i64 1, .slice A N1 c] := hd 16 (by omega) (by kernel_rfl)
      clear hd
      rw [h12]
      refine hop_call rfl rfl rfl (f := 24) (args := #[.agg #[.int .i64 (k1 : Int), .int .i64 0, .slice A N1 c], .agg #[.int .i64 (k1 : Int), .int .i64 1, .slice A N1 c]]) (by go_simp) ?_
      refine (S3.out W2 hG).mono ?_
      rintro e W' ⟨rfl, hb⟩
      exact ⟨_, rfl, hb, rfl⟩
    | 18, _ =>
      have h12 : us 12 = .bool true := hd 12 (by omega) (by kernel_rfl)
      have h17 : us 17 = .bool false := hd 17 (by omega) (by kernel_rfl)
      clear hd
      rw [h12]
      exact hop_value rfl rfl rfl (v := .bool true) (W' := W2) (by go_simp) (Grows.refl _) rfl
    | 19, _ =>
      have h12 : us 12 = .bool true := hd 12 (by omega) (by kernel_rfl)
      have h18 : us 18 = .bool true := hd 18 (by omega) (by kernel_rfl)
      clear hd
      exact hop_value rfl rfl rfl (v := .bool true) (W' := W2) (by go_simp) (Grows.refl _) rfl
    | 20, _ =>
      have h19 : us 19 = .bool true := hd 19 (by omega) (by kernel_rfl)
      clear hd
      exact hop_value rfl rfl rfl (v := .bool true) (W' := W2) (by go_simp) (Grows.refl _) rfl
    | 21, _ =>
      have h20 : us 20 = .bool true := hd 20 (by omega) (by kernel_rfl)
      clear hd
      rw [h20]
      have q0 := (hG.cell (b := wc.heap.size + 1) (o := 0) LX.out).trans X0.out
      have q0l := Nat.lt_of_lt_of_le LX.out hG.size
      have q1 := (hG.cell (b := wc.heap.size + 1) (o := 1) LX.out).trans X1.out
      have q1l := Nat.lt_of_lt_of_le LX.out hG.size
      have q2 := (hG.cell (b := wc.heap.size + 1) (o := 2) LX.out).trans X2.out
      have q2l := Nat.lt_of_lt_of_le LX.out hG.size
      exact hop_value rfl rfl rfl (v := .agg #[.int .i64 (k1 : Int), .int .i64 1, .slice A N1 c]) (W' := W2) (by go_simp) (Grows.refl _) rfl
    | 22, _ =>
      have h20 : us 20 = .bool true := hd 20 (by omega) (by kernel_rfl)
      have h21 : us 21 = .agg #[.int .i64 (k1 : Int), .int .i64 1, .slice A N1 c] := hd 21 (by omega) (by kernel_rfl)
      clear hd
      rw [h20]
      refine hop_call rfl rfl rfl (f := 25) (args := #[.agg #[.int .i64 (k1 : Int), .int .i64 1, .slice A N1 c]]) (by go_simp) ?_
      refine (lmade_any _ _ _ _ _ W2).mono ?_
      rintro e W' ⟨rfl, hb⟩
      exact ⟨_, rfl, hb, rfl⟩
    | 23, _ =>
      have h20 : us 20 = .bool true := hd 20 (by omega) (by kernel_rfl)
      clear hd
      rw [h20]
      have q0 := (hG.cell (b := wc.heap.size + 1) (o := 0) LX.out).trans X0.out
      have q0l := Nat.lt_of_lt_of_le LX.out hG.size
      have q1 := (hG.cell (b := wc.heap.size + 1) (o := 1) LX.out).trans X1.out
      have q1l := Nat.lt_of_lt_of_le LX.out hG.size
      have q2 := (hG.cell (b := wc.heap.size + 1) (o := 2) LX.out).trans X2.out
      have q2l := Nat.lt_of_lt_of_le LX.out hG.size
      exact hop_value rfl rfl rfl (v := .agg #[.int .i64 (k1 : Int), .int .i64 1, .slice A N1 c]) (W' := W2) (by go_simp) (Grows.refl _) rfl
    | 24, _ =>
      have h20 : us 20 = .bool true := hd 20 (by omega) (by kernel_rfl)
      have h23 : us 23 = .agg #[.int .i64 (k1 : Int), .int .i64 1, .slice A N1 c] := hd 23 (by omega) (by kernel_rfl)
      clear hd
      rw [h20]
      refine hop_call rfl rfl rfl (f := 25) (args := #[.agg #[.int .i64 (k1 : Int), .int .i64 1, .slice A N1 c]]) (by go_simp) ?_
      refine (lmade_any _ _ _ _ _ W2).mono ?_
      rintro e W' ⟨rfl, hb⟩
      exact ⟨_, rfl, hb, rfl⟩
    | 25, _ =>
      have h20 : us 20 = .bool true := hd 20 (by omega) (by kernel_rfl)
      have h22 : us 22 = .agg #[.int .i64 (k1 : Int), .int .i64 1, .slice A N1 c] := hd 22 (by omega) (by kernel_rfl)
      have h24 : us 24 = .agg #[.int .i64 (k1 : Int), .int .i64 1, .slice A N1 c] := hd 24 (by omega) (by kernel_rfl)
      clear hd
      rw [h20]
      refine hop_call rfl rfl rfl (f := 24) (args := #[.agg #[.int .i64 (k1 : Int), .int .i64 1, .slice A N1 c], .agg #[.int .i64 (k1 : Int), .int .i64 1, .slice A N1 c]]) (by go_simp) ?_
      refine (S4.out W2 hG).mono ?_
      rintro e W' ⟨rfl, hb⟩
      exact ⟨_, rfl, hb, rfl⟩
    | 26, _ =>
      have h20 : us 20 = .bool true := hd 20 (by omega) (by kernel_rfl)
      have h25 : us 25 = .bool true := hd 25 (by omega) (by kernel_rfl)
      clear hd
      exact hop_value rfl rfl rfl (v := .bool true) (W' := W2) (by go_simp) (Grows.refl _) rfl
    | d + 27, h => exact absurd h (by omega)
  case htailA =>
    intro us W2 hG hf
    have hz : us 26 = .bool true := hf 26 (by omega)
    clear hf
    rw [hz]
    have HG2 := Lib.hid hG
    clear hz hG
    simp only [List.drop_succ_cons, List.drop_zero]
    repeat (go_big_quiet_step (fail))
    refine wpQuiet_nil ?_
    rintro w' ⟨nq, rfl⟩
    have HBX := Lib.hid (below_drewN HG2.out nq)
    clear HG2
    generalize W2.drewN nq = wy at *
    go_wp2
    go_ret
    exact ⟨rfl, thn HB6.out HBX.out⟩

set_option maxRecDepth 100000 in
theorem lifted (os : Os) (started : os.Started) (H : Type) (enc : TypeId × Value → H) :
    ReturnsInHanded {} Try.checked os 8 .any (Rows.histSameSpec.pre6 enc Try.prog Try.f8 Rows.histSameRow.domain false) (Rows.histSameSpec.post enc Try.prog Try.f8 false true false false) := by
  refine returnsInHanded_of_change (C := Try.checked) own started (by kernel_rfl) Try.func8
    (ChangeSpec.witness6 (enc := enc) (C := Try.checked) false ⟨#[], #[.agg #[.int .i64 0, .int .i64 0], .slice none 0 0, .slice none 0 0], []⟩ 8 (by kernel_rfl) (by kernel_rfl) (by kernel_rfl) (by kernel_rfl)) ?_
  intro W base args ds gs before hval0 hW hcnd _
  have hval : ∀ (j : Nat) t v, Try.f8.params[j]? = some t → args[j]? = some v → Value.okWide Try.prog W .any base t v := hval0
  have hW' := hW
  obtain ⟨p, q, hA0, hV, rfl, hfz, hnd⟩ := hW
  have hA : DataW.TrodAll enc Try.prog W 0 (fun _ => true) true Try.f8.params.toList args.toList ds p := hA0
  rw [Try.params8] at hA hval
  obtain ⟨v0, vs0, d0, ds0, p0, q0, hargs, rfl, rfl, h0, r0⟩ := trodAll_cons hA
  obtain ⟨v1, vs1, d1, ds1, p1, q1, rfl, rfl, rfl, h1, r1⟩ := trodAll_cons r0
  obtain ⟨v2, vs2, d2, ds2, p2, q2, rfl, rfl, rfl, h2, r2⟩ := trodAll_cons r1
  obtain ⟨rfl, rfl, rfl⟩ := trodAll_nil r2
  obtain rfl : args = #[v0, v1, v2] := by cases args; simp_all
  obtain ⟨rfl, rfl⟩ := trodVars_none hV
  have k0 := h0
  have lt0 : ∀ x ∈ p0, x.block < W.heap.size := by obtain ⟨m, hm⟩ := k0; exact DataW.trod_lt m _ _ _ hm
  obtain ⟨c0, rfl, fit0⟩ := Op.open_flat (f := 9) (ks := [.i64, .i64]) (by kernel_rfl) (by kernel_rfl) (hval 0 55 v0 rfl rfl) h0
  obtain ⟨a0_0, a0_1, rfl, w0_0, w0_1⟩ := fit0_of fit0
  obtain ⟨a1, len1, cap1, rfl⟩ := okWide_slice Try.underlying22 (hval 1 22 v1 rfl rfl)
  have k1 := h1
  have lt1 : ∀ x ∈ p1, x.block < W.heap.size := by obtain ⟨m, hm⟩ := k1; exact DataW.trod_lt m _ _ _ hm
  obtain ⟨z1, w1⟩ := Op.open_flats (f := 9) (ks := [.u64, .u64]) Try.underlying22 (by kernel_rfl) (by kernel_rfl) (by decide) h1
  obtain ⟨a2, len2, cap2, rfl⟩ := okWide_slice Try.underlying22 (hval 2 22 v2 rfl rfl)
  have k2 := h2
  have lt2 : ∀ x ∈ p2, x.block < W.heap.size := by obtain ⟨m, hm⟩ := k2; exact DataW.trod_lt m _ _ _ hm
  obtain ⟨z2, w2⟩ := Op.open_flats (f := 9) (ks := [.u64, .u64]) Try.underlying22 (by kernel_rfl) (by kernel_rfl) (by decide) h2
  clear hA0 hval0
  refine (walk a0_0 a0_1 a1 len1 cap1 z1 a2 len2 cap2 z2 W w0_0 w0_1 w1 w2).mono fun e W' ⟨he, bel⟩ => ?_
  subst he
  exact ⟨_, rfl, _, _, _, [], _, [], hW', trodAll_mk1 (shut_bool Try.underlying4 _), (trodAll_cons_mk (Below.trod laidOut (by kernel_rfl) (of_decide_eq_true (by kernel_rfl)) k0 bel lt0) (trodAll_cons_mk (Below.trod laidOut (by kernel_rfl) (of_decide_eq_true (by kernel_rfl)) k1 bel lt1) (trodAll_cons_mk (Below.trod laidOut (by kernel_rfl) (of_decide_eq_true (by kernel_rfl)) k2 bel lt2) trodAll_mk0))), rfl, bel.frame _, fun h => by cases h⟩

theorem over : Rows.histSameRow.holds Try.pinned (OpenSpec.ofChange Rows.histSameSpec) :=
  OpenClaim.holds_of_wide 8 Try.f8 rfl rfl rfl rfl rfl rfl rfl ⟨rfl, rfl, rfl, rfl, rfl⟩ rfl rfl rfl rfl rfl (by kernel_rfl) Try.func8 (by kernel_rfl)
    (of_decide_eq_true (by kernel_rfl)) (by unfold Func.isWrapper; first | (rw [if_pos (by decide +kernel)]; kernel_rfl) | (rw [if_neg (by decide +kernel)]; exact ⟨rfl, rfl⟩))
    (fun os started H enc _ => lifted os started H enc)

/-- The statement. -/
theorem proved : Rows.HistSameSaid := over
#print axioms proved
end Go.Proofs.Ytimlmaincblkoaa.histSame
