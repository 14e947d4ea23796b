/-
  'skylight/skylightlaw09.CheckTells' returns true for every input, and the input reads afterwards as it read before. Conditions: none.
-/
import Derived.Test.YtoplbjanemjebaaRows
import Derived.WalkKit
import Derived.ProofKit
import Derived.OpenShut
import Derived.ShutString
import Derived.ChangeOld
import Derived.Below
import Derived.Test.YtoplbjanemjebaaOpen
import Derived.Test.YtoplbjanemjebaaCkTell
namespace Go.Proofs.Ytoplbjanemjebaa.checkTells
open Go.Proofs Go.Proofs.Rn Go.Proofs.Op Go.Proofs.Rw Go.Proofs.Lm Go.Proofs.Lh Go.Proofs.Rf
open Go.ChangeShapes Go.WideShapes Go.ChangeAt Go.RowKit
open Go.ChangeMaps (open_string shut_string)
set_option linter.unusedVariables false

theorem own : ownKnob Try.prog.godebug = none := by kernel_rfl
theorem laidOut : laidOutB Try.prog = true := by kernel_rfl

/-- A slice of integers that came in: nil, or a row of cells of its capacity, each fitting its kind. -/
def IsRow (k : IntKind) (w : World) (a : Option Addr) (len cap : Nat) (zs : List Int) : Prop :=
  (a = none ∧ len = 0 ∧ cap = 0 ∧ zs = []) ∨
  ∃ x, a = some x ∧ len ≤ cap ∧ cap ≤ maxLen ∧ zs.length = cap ∧ (∀ i, i < zs.length → w.cell? (x.add i) = some (.int k (zs.getD i 0))) ∧ ∀ n ∈ zs, (Lit.int k n).wf = true

theorem fit1_of {c : List Value} (h : Op.Fits [.i64, .i64] c) : ∃ x0 x1 : Int, c = [.int .i64 x0, .int .i64 x1] ∧ (Lit.int .i64 x0).wf = true ∧ (Lit.int .i64 x1).wf = true := by
  cases c with
  | nil => exact h.elim
  | cons y0 c =>
  have g0 := h.1
  replace h := h.2
  cases c with
  | nil => exact h.elim
  | cons y1 c =>
  have g1 := h.1
  replace h := h.2
  cases c with
  | cons y c => exact h.elim
  | nil =>
  obtain ⟨x0, e0, e0w⟩ := g0
  obtain ⟨x1, e1, e1w⟩ := g1
  exact ⟨x0, x1, by rw [e0, e1], e0w, e1w⟩

open Go.RowKit Go.Shelf Go.Proofs.Rw Go.Proofs.Lh Go.Proofs.Rf

set_option maxRecDepth 100000 in
set_option maxHeartbeats 4000000 in
theorem walk (a0_0 a0_1 : Int) (a0 : Option Addr) (cap0 : Nat) (ls0 : List (List Rw.Sp)) (a1_0 a1_1 : Int) (a2 : Int) (w : World) (w0_0 : (Lit.int .i64 a0_0).wf = true) (w0_1 : (Lit.int .i64 a0_1).wf = true) (w0 : Rw.Reads w w.heap.size (.slice a0 ls0.length cap0) ls0) (wb0 : ∀ l ∈ ls0, ∀ y ∈ l, y.1 < 18446744073709551616 ∧ y.2 < 18446744073709551616) (w1_0 : (Lit.int .i64 a1_0).wf = true) (w1_1 : (Lit.int .i64 a1_1).wf = true) (w2 : (Lit.int .u64 a2).wf = true) :
    Calls Try.prog 3 #[.agg #[.int .i64 a0_0, .int .i64 a0_1, .slice a0 ls0.length cap0], .agg #[.int .i64 a1_0, .int .i64 a1_1], .int .u64 a2] w fun e w' => e = .returned (.bool true) ∧ Below w.heap.size w w' := by
  obtain ⟨c20, c21⟩ := bounds_u64 w2
  obtain ⟨we, rfl⟩ : ∃ n : Nat, a2 = (n : Int) := ⟨a2.toNat, by omega⟩
  have hwe : we < 18446744073709551616 := by omega
  clear c20 c21 w2 w1_0 w1_1 w0_0 w0_1 wb0
  have hrd := w0
  obtain ⟨N, hN⟩ : ∃ x, ls0.length = x := ⟨_, rfl⟩
  rw [hN] at hrd ⊢
  have hfw := fun (W : World) (hW : Below w.heap.size w W) => rfew_any a0_0 a0_1 ls0 W a0 cap0 (by rw [hN]; exact hrd.grow hW)
  simp only [hN] at hfw
  have HRD := Lib.hid hrd
  have HN := Lib.hid hN
  clear hrd hN w0
  obtain ⟨q, hq⟩ : ∃ q, fewB ls0 = q := ⟨_, rfl⟩
  simp only [hq] at hfw
  have HQ := Lib.hid hq
  have HFW := Lib.hid hfw
  clear hq hfw
  obtain ⟨W2, hW2, hsz2, pR, pX, hB2⟩ := heap_two w (.cells #[.int .i64 a0_0, .int .i64 a0_1, .slice a0 N cap0] 24) (.cells #[.int .i64 a1_0, .int .i64 a1_1] 25)
  have HW2 := Lib.hid hW2
  have HB2 := Lib.hid hB2
  have PR := Lib.hid pR
  have PX := Lib.hid pX
  clear hW2 hB2 pR pX hsz2
  go_enter Try.func3, Try.ntmps3
  go_upto_region 1 with (fail)
  rw [← HW2.out]
  clear HW2
  go_upto_region 2 with (go_at_call 8; refine (awake_any _).mono ?_; rintro e wa ⟨rfl, ha⟩; have HWA := Lib.hid (thn HB2.out ha); have PRA := Lib.hid ((ha.block _ (lt_of PR.out)).trans PR.out); have PXA := Lib.hid ((ha.block _ (lt_of PX.out)).trans PX.out); clear ha)
  obtain ⟨y0, y1, y2⟩ := box3 PRA.out
  have lR := lt_of PRA.out
  cases q with
  | false =>
    go_wp2_with (go_at_call 9; refine (HFW.out _ HWA.out).mono ?_; rintro e wb ⟨rfl, hb⟩; have HB3 := Lib.hid (thn HWA.out hb); clear hb)
    go_ret
    exact ⟨rfl, HB3.out⟩
  | true =>
  go_upto_region 4 with (go_at_call 9; refine (HFW.out _ HWA.out).mono ?_; rintro e wb ⟨rfl, hb⟩; have HWB := Lib.hid (thn HWA.out hb); have PRB := Lib.hid ((hb.block _ (lt_of PRA.out)).trans PRA.out); have PXB := Lib.hid ((hb.block _ (lt_of PXA.out)).trans PXA.out); clear hb)
  obtain ⟨z0, z1, z2⟩ := box3 PRB.out
  have lRB := lt_of PRB.out
  go_upto_region 5 with (fail)
  clear y0 y1 y2 lR z0 z1 z2 lRB
  obtain ⟨W4, hW4⟩ : ∃ W, wb.alloc (.cells #[.int .i64 a0_0, .int .i64 a0_1, .slice a0 N cap0] 29) = W := ⟨_, rfl⟩
  have hB4 : Below wb.heap.size wb W4 := by rw [← hW4]; exact (Below.refl _ wb).alloc (Nat.le_refl _) _
  have pH : W4.heap[wb.heap.size]? = some (.cells #[.int .i64 a0_0, .int .i64 a0_1, .slice a0 N cap0] 29) := by rw [← hW4]; exact heap_alloc_new wb _
  have pX := (hB4.block _ (lt_of PXB.out)).trans PXB.out
  rw [hW4]
  obtain ⟨bX, hbX⟩ : ∃ b, w.heap.size + 1 = b := ⟨_, rfl⟩
  obtain ⟨bH, hbH⟩ : ∃ b, wb.heap.size = b := ⟨_, rfl⟩
  rw [hbX] at pX ⊢
  rw [hbH] at pH ⊢
  have HB4 := Lib.hid (thn HWB.out hB4)
  have HL4 := Lib.hid (HRD.out.grow HB4.out)
  have LH := Lib.hid (lt_of pH)
  have LX := Lib.hid (lt_of pX)
  obtain ⟨y0, y1, y2⟩ := box3 pH
  have Y0 := Lib.hid y0
  have Y1 := Lib.hid y1
  have Y2 := Lib.hid y2
  have x0 : W4.cell? ⟨bX, 0, none⟩ = some (.int .i64 a1_0) := by simp [World.cell?, pX]
  have x1 : W4.cell? ⟨bX, 1, none⟩ = some (.int .i64 a1_1) := by simp [World.cell?, pX]
  have X0 := Lib.hid x0
  have X1 := Lib.hid x1
  have hfew := of_decide_eq_true HQ.out
  have hlen : ls0.length ≤ 60 := hfew.1
  have hlv : ∀ i, (lev ls0 i).length ≤ 40 := fun i => by
    rcases Nat.lt_or_ge i ls0.length with h | h
    · exact hfew.2 i h
    · rw [lev_ge h]; simp
  have hcn : cnt ls0 ≤ 1000000 := by
    have := cnt_few40 ls0 fun i => hlv i
    have := Nat.mul_le_mul_left 40 hlen
    omega
  obtain ⟨ch, hch⟩ : ∃ x, chk a0_0 a0_1 ls0 = x := ⟨_, rfl⟩
  obtain ⟨cn, hcn2⟩ : ∃ x, cnt ls0 = x := ⟨_, rfl⟩
  obtain ⟨bo, hbo⟩ : ∃ x, boundN a1_0 a1_1 we = x := ⟨_, rfl⟩
  have cbo := fun W => bound_any a1_0 a1_1 we hwe W
  have rbo := fun W => rbound_any a1_0 a1_1 we hwe W
  simp only [hbo] at cbo rbo
  have CBO := Lib.hid cbo
  have RBO := Lib.hid rbo
  clear cbo rbo hbo
  have CH' : ∀ W : World, Grows W4 W → Calls Try.prog 10 #[.agg #[.int .i64 a0_0, .int .i64 a0_1, .slice a0 N cap0]] W fun e w' => e = .returned (.int .i64 (ch : Int)) ∧ Below W.heap.size W w' := by
    intro W hW
    have := hist_any a0_0 a0_1 ls0 (by omega) (fun i => by have := hlv i; omega) W a0 cap0 (by rw [HN.out]; exact HL4.out.grow hW)
    rw [hch, HN.out] at this
    exact this
  have CH := Lib.hid CH'
  clear CH'
  have RH' : ∀ W : World, Grows W4 W → Calls Try.prog 12 #[.agg #[.int .i64 a0_0, .int .i64 a0_1, .slice a0 N cap0]] W fun e w' => e = .returned (.int .i64 (ch : Int)) ∧ Below W.heap.size W w' := by
    intro W hW
    have := rhist_any a0_0 a0_1 ls0 (by omega) (fun i => by have := hlv i; omega) W a0 cap0 (by rw [HN.out]; exact HL4.out.grow hW)
    rw [hch, HN.out] at this
    exact this
  have RH := Lib.hid RH'
  clear RH'
  have CB' : ∀ W : World, Grows W4 W → Calls Try.prog 13 #[.agg #[.int .i64 a0_0, .int .i64 a0_1, .slice a0 N cap0]] W fun e w' => e = .returned (.int .i64 (cn : Int)) ∧ Below W.heap.size W w' := by
    intro W hW
    have := buckets_any a0_0 a0_1 ls0 (by omega) hcn W a0 cap0 (by rw [HN.out]; exact HL4.out.grow hW)
    rw [hcn2, HN.out] at this
    exact this
  have CB := Lib.hid CB'
  clear CB'
  have RB' : ∀ W : World, Grows W4 W → Calls Try.prog 14 #[.agg #[.int .i64 a0_0, .int .i64 a0_1, .slice a0 N cap0]] W fun e w' => e = .returned (.int .i64 (cn : Int)) ∧ Below W.heap.size W w' := by
    intro W hW
    have := rbuckets_any a0_0 a0_1 ls0 (by omega) hcn W a0 cap0 (by rw [HN.out]; exact HL4.out.grow hW)
    rw [hcn2, HN.out] at this
    exact this
  have RB := Lib.hid RB'
  clear RB'
  clear x0 x1 y0 y1 y2 pH pX hW4 hB4 hbX hbH HWA PRA PXA HWB PRB PXB PR PX HB2 HRD HFW hfew hlen hlv hcn hch hcn2 HQ HN HL4
  refine region_facts0 (fr := ?frA) 32 [21, 22, 23, 24, 25, 26, 27, 28, 29, 30, 31, 32, 33, 34, 35, 36, 37, 38, 39, 40, 41, 42, 43, 44, 45, 46, 47, 48, 49, 50, 51, 52] (fun i v W => match i with
      | 0 => v = .bool true
      | 1 => v = .bool true
      | 2 => v = .agg #[.int .i64 a0_0, .int .i64 a0_1, .slice a0 N cap0]
      | 3 => v = .agg #[.int .i64 a0_0, .int .i64 a0_1, .slice a0 N cap0]
      | 4 => v = .int .i64 (ch : Int)
      | 5 => v = .agg #[.int .i64 a0_0, .int .i64 a0_1, .slice a0 N cap0]
      | 6 => v = .int .i64 (ch : Int)
      | 7 => v = .bool true
      | 8 => v = .bool true
      | 9 => v = .bool true
      | 10 => v = .agg #[.int .i64 a0_0, .int .i64 a0_1, .slice a0 N cap0]
      | 11 => v = .agg #[.int .i64 a0_0, .int .i64 a0_1, .slice a0 N cap0]
      | 12 => v = .int .i64 (cn : Int)
      | 13 => v = .agg #[.int .i64 a0_0, .int .i64 a0_1, .slice a0 N cap0]
      | 14 => v = .int .i64 (cn : Int)
      | 15 => v = .bool true
      | 16 => v = .bool true
      | 17 => v = .bool true
      | 18 => v = .pointer (some ⟨bX, 0, none⟩)
      | 19 => v = .int .i64 a1_0
      | 20 => v = .pointer (some ⟨bX, 1, none⟩)
      | 21 => v = .int .i64 a1_1
      | 22 => v = .int .u64 (we : Int)
      | 23 => v = .int .i64 (bo : Int)
      | 24 => v = .pointer (some ⟨bX, 0, none⟩)
      | 25 => v = .int .i64 a1_0
      | 26 => v = .pointer (some ⟨bX, 1, none⟩)
      | 27 => v = .int .i64 a1_1
      | 28 => v = .int .u64 (we : Int)
      | 29 => v = .int .i64 (bo : Int)
      | 30 => v = .bool true
      | 31 => v = .bool true
      | _ => True) rfl ?hBA (by kernel_rfl) (by kernel_rfl) (by kernel_rfl) ?hfrA ?hFA ?hopA ?htailA
  case hBA => kernel_rfl
  case hfrA =>
    intro us
    simp only [putL]
    go_simp
    rfl
  case hFA =>
    intro i v W W' hG h
    match i with
    | 0 => exact h
    | 1 => exact h
    | 2 => exact h
    | 3 => exact h
    | 4 => exact h
    | 5 => exact h
    | 6 => exact h
    | 7 => exact h
    | 8 => exact h
    | 9 => exact h
    | 10 => exact h
    | 11 => exact h
    | 12 => exact h
    | 13 => exact h
    | 14 => exact h
    | 15 => exact h
    | 16 => exact h
    | 17 => exact h
    | 18 => exact h
    | 19 => exact h
    | 20 => exact h
    | 21 => exact h
    | 22 => exact h
    | 23 => exact h
    | 24 => exact h
    | 25 => exact h
    | 26 => exact h
    | 27 => exact h
    | 28 => exact h
    | 29 => exact h
    | 30 => exact h
    | 31 => exact h
    | n + 32 => trivial
  case hopA =>
    intro i hi us W2 hG hd
    match i, hi with
    | 0, _ =>
      clear hd
      exact hop_value rfl rfl rfl (v := .bool true) (W' := W2) (by go_simp) (Grows.refl _) rfl
    | 1, _ =>
      have h0 : us 0 = .bool true := hd 0 (by omega) (by kernel_rfl)
      clear hd
      exact hop_value rfl rfl rfl (v := .bool true) (W' := W2) (by go_simp) (Grows.refl _) rfl
    | 2, _ =>
      have h1 : us 1 = .bool true := hd 1 (by omega) (by kernel_rfl)
      clear hd
      rw [h1]
      have q0 := (hG.cell (b := bH) (o := 0) LH.out).trans Y0.out
      have q0l := Nat.lt_of_lt_of_le LH.out hG.size
      have q1 := (hG.cell (b := bH) (o := 1) LH.out).trans Y1.out
      have q1l := Nat.lt_of_lt_of_le LH.out hG.size
      have q2 := (hG.cell (b := bH) (o := 2) LH.out).trans Y2.out
      have q2l := Nat.lt_of_lt_of_le LH.out hG.size
      exact hop_value rfl rfl rfl (v := .agg #[.int .i64 a0_0, .int .i64 a0_1, .slice a0 N cap0]) (W' := W2) (by go_simp) (Grows.refl _) rfl
    | 3, _ =>
      have h1 : us 1 = .bool true := hd 1 (by omega) (by kernel_rfl)
      have h2 : us 2 = .agg #[.int .i64 a0_0, .int .i64 a0_1, .slice a0 N cap0] := hd 2 (by omega) (by kernel_rfl)
      clear hd
      rw [h1]
      refine hop_call rfl rfl rfl (f := 11) (args := #[.agg #[.int .i64 a0_0, .int .i64 a0_1, .slice a0 N cap0]]) (by go_simp) ?_
      refine (lmade_any _ _ _ _ _ W2).mono ?_
      rintro e W' ⟨rfl, hb⟩
      exact ⟨_, rfl, hb, rfl⟩
    | 4, _ =>
      have h1 : us 1 = .bool true := hd 1 (by omega) (by kernel_rfl)
      have h3 : us 3 = .agg #[.int .i64 a0_0, .int .i64 a0_1, .slice a0 N cap0] := hd 3 (by omega) (by kernel_rfl)
      clear hd
      rw [h1]
      refine hop_call rfl rfl rfl (f := 10) (args := #[.agg #[.int .i64 a0_0, .int .i64 a0_1, .slice a0 N cap0]]) (by go_simp) ?_
      refine (CH.out W2 hG).mono ?_
      rintro e W' ⟨rfl, hb⟩
      exact ⟨_, rfl, hb, rfl⟩
    | 5, _ =>
      have h1 : us 1 = .bool true := hd 1 (by omega) (by kernel_rfl)
      clear hd
      rw [h1]
      have q0 := (hG.cell (b := bH) (o := 0) LH.out).trans Y0.out
      have q0l := Nat.lt_of_lt_of_le LH.out hG.size
      have q1 := (hG.cell (b := bH) (o := 1) LH.out).trans Y1.out
      have q1l := Nat.lt_of_lt_of_le LH.out hG.size
      have q2 := (hG.cell (b := bH) (o := 2) LH.out).trans Y2.out
      have q2l := Nat.lt_of_lt_of_le LH.out hG.size
      exact hop_value rfl rfl rfl (v := .agg #[.int .i64 a0_0, .int .i64 a0_1, .slice a0 N cap0]) (W' := W2) (by go_simp) (Grows.refl _) rfl
    | 6, _ =>
      have h1 : us 1 = .bool true := hd 1 (by omega) (by kernel_rfl)
      have h5 : us 5 = .agg #[.int .i64 a0_0, .int .i64 a0_1, .slice a0 N cap0] := hd 5 (by omega) (by kernel_rfl)
      clear hd
      rw [h1]
      refine hop_call rfl rfl rfl (f := 12) (args := #[.agg #[.int .i64 a0_0, .int .i64 a0_1, .slice a0 N cap0]]) (by go_simp) ?_
      refine (RH.out W2 hG).mono ?_
      rintro e W' ⟨rfl, hb⟩
      exact ⟨_, rfl, hb, rfl⟩
    | 7, _ =>
      have h1 : us 1 = .bool true := hd 1 (by omega) (by kernel_rfl)
      have h4 : us 4 = .int .i64 (ch : Int) := hd 4 (by omega) (by kernel_rfl)
      have h6 : us 6 = .int .i64 (ch : Int) := hd 6 (by omega) (by kernel_rfl)
      clear hd
      rw [h1]
      exact hop_value rfl rfl rfl (v := .bool true) (W' := W2) (by go_simp) (Grows.refl _) rfl
    | 8, _ =>
      have h1 : us 1 = .bool true := hd 1 (by omega) (by kernel_rfl)
      have h7 : us 7 = .bool true := hd 7 (by omega) (by kernel_rfl)
      clear hd
      exact hop_value rfl rfl rfl (v := .bool true) (W' := W2) (by go_simp) (Grows.refl _) rfl
    | 9, _ =>
      have h8 : us 8 = .bool true := hd 8 (by omega) (by kernel_rfl)
      clear hd
      exact hop_value rfl rfl rfl (v := .bool true) (W' := W2) (by go_simp) (Grows.refl _) rfl
    | 10, _ =>
      have h9 : us 9 = .bool true := hd 9 (by omega) (by kernel_rfl)
      clear hd
      rw [h9]
      have q0 := (hG.cell (b := bH) (o := 0) LH.out).trans Y0.out
      have q0l := Nat.lt_of_lt_of_le LH.out hG.size
      have q1 := (hG.cell (b := bH) (o := 1) LH.out).trans Y1.out
      have q1l := Nat.lt_of_lt_of_le LH.out hG.size
      have q2 := (hG.cell (b := bH) (o := 2) LH.out).trans Y2.out
      have q2l := Nat.lt_of_lt_of_le LH.out hG.size
      exact hop_value rfl rfl rfl (v := .agg #[.int .i64 a0_0, .int .i64 a0_1, .slice a0 N cap0]) (W' := W2) (by go_simp) (Grows.refl _) rfl
    | 11, _ =>
      have h9 : us 9 = .bool true := hd 9 (by omega) (by kernel_rfl)
      have h10 : us 10 = .agg #[.int .i64 a0_0, .int .i64 a0_1, .slice a0 N cap0] := hd 10 (by omega) (by kernel_rfl)
      clear hd
      rw [h9]
      refine hop_call rfl rfl rfl (f := 11) (args := #[.agg #[.int .i64 a0_0, .int .i64 a0_1, .slice a0 N cap0]]) (by go_simp) ?_
      refine (lmade_any _ _ _ _ _ W2).mono ?_
      rintro e W' ⟨rfl, hb⟩
      exact ⟨_, rfl, hb, rfl⟩
    | 12, _ =>
      have h9 : us 9 = .bool true := hd 9 (by omega) (by kernel_rfl)
      have h11 : us 11 = .agg #[.int .i64 a0_0, .int .i64 a0_1, .slice a0 N cap0] := hd 11 (by omega) (by kernel_rfl)
      clear hd
      rw [h9]
      refine hop_call rfl rfl rfl (f := 13) (args := #[.agg #[.int .i64 a0_0, .int .i64 a0_1, .slice a0 N cap0]]) (by go_simp) ?_
      refine (CB.out W2 hG).mono ?_
      rintro e W' ⟨rfl, hb⟩
      exact ⟨_, rfl, hb, rfl⟩
    | 13, _ =>
      have h9 : us 9 = .bool true := hd 9 (by omega) (by kernel_rfl)
      clear hd
      rw [h9]
      have q0 := (hG.cell (b := bH) (o := 0) LH.out).trans Y0.out
      have q0l := Nat.lt_of_lt_of_le LH.out hG.size
      have q1 := (hG.cell (b := bH) (o := 1) LH.out).trans Y1.out
      have q1l := Nat.lt_of_lt_of_le LH.out hG.size
      have q2 := (hG.cell (b := bH) (o := 2) LH.out).trans Y2.out
      have q2l := Nat.lt_of_lt_of_le LH.out hG.size
      exact hop_value rfl rfl rfl (v := .agg #[.int .i64 a0_0, .int .i64 a0_1, .slice a0 N cap0]) (W' := W2) (by go_simp) (Grows.refl _) rfl
    | 14, _ =>
      have h9 : us 9 = .bool true := hd 9 (by omega) (by kernel_rfl)
      have h13 : us 13 = .agg #[.int .i64 a0_0, .int .i64 a0_1, .slice a0 N cap0] := hd 13 (by omega) (by kernel_rfl)
      clear hd
      rw [h9]
      refine hop_call rfl rfl rfl (f := 14) (args := #[.agg #[.int .i64 a0_0, .int .i64 a0_1, .slice a0 N cap0]]) (by go_simp) ?_
      refine (RB.out W2 hG).mono ?_
      rintro e W' ⟨rfl, hb⟩
      exact ⟨_, rfl, hb, rfl⟩
    | 15, _ =>
      have h9 : us 9 = .bool true := hd 9 (by omega) (by kernel_rfl)
      have h12 : us 12 = .int .i64 (cn : Int) := hd 12 (by omega) (by kernel_rfl)
      have h14 : us 14 = .int .i64 (cn : Int) := hd 14 (by omega) (by kernel_rfl)
      clear hd
      rw [h9]
      exact hop_value rfl rfl rfl (v := .bool true) (W' := W2) (by go_simp) (Grows.refl _) rfl
    | 16, _ =>
      have h9 : us 9 = .bool true := hd 9 (by omega) (by kernel_rfl)
      have h15 : us 15 = .bool true := hd 15 (by omega) (by kernel_rfl)
      clear hd
      exact hop_value rfl rfl rfl (v := .bool true) (W' := W2) (by go_simp) (Grows.refl _) rfl
    | 17, _ =>
      have h16 : us 16 = .bool true := hd 16 (by omega) (by kernel_rfl)
      clear hd
      exact hop_value rfl rfl rfl (v := .bool true) (W' := W2) (by go_simp) (Grows.refl _) rfl
    | 18, _ =>
      have h17 : us 17 = .bool true := hd 17 (by omega) (by kernel_rfl)
      clear hd
      rw [h17]
      exact hop_value rfl rfl rfl (v := .pointer (some ⟨bX, 0, none⟩)) (W' := W2) (by go_simp) (Grows.refl _) rfl
    | 19, _ =>
      have h17 : us 17 = .bool true := hd 17 (by omega) (by kernel_rfl)
      have h18 : us 18 = .pointer (some ⟨bX, 0, none⟩) := hd 18 (by omega) (by kernel_rfl)
      clear hd
      rw [h17]
      have q := (hG.cell (b := bX) (o := 0) LX.out).trans X0.out
      have ql := Nat.lt_of_lt_of_le LX.out hG.size
      exact hop_value rfl rfl rfl (v := .int .i64 a1_0) (W' := W2) (by go_simp) (Grows.refl _) rfl
    | 20, _ =>
      have h17 : us 17 = .bool true := hd 17 (by omega) (by kernel_rfl)
      clear hd
      rw [h17]
      exact hop_value rfl rfl rfl (v := .pointer (some ⟨bX, 1, none⟩)) (W' := W2) (by go_simp) (Grows.refl _) rfl
    | 21, _ =>
      have h17 : us 17 = .bool true := hd 17 (by omega) (by kernel_rfl)
      have h20 : us 20 = .pointer (some ⟨bX, 1, none⟩) := hd 20 (by omega) (by kernel_rfl)
      clear hd
      rw [h17]
      have q := (hG.cell (b := bX) (o := 1) LX.out).trans X1.out
      have ql := Nat.lt_of_lt_of_le LX.out hG.size
      exact hop_value rfl rfl rfl (v := .int .i64 a1_1) (W' := W2) (by go_simp) (Grows.refl _) rfl
    | 22, _ =>
      have h17 : us 17 = .bool true := hd 17 (by omega) (by kernel_rfl)
      clear hd
      rw [h17]
      exact hop_value rfl rfl rfl (v := .int .u64 (we : Int)) (W' := W2) (by go_simp) (Grows.refl _) rfl
    | 23, _ =>
      have h17 : us 17 = .bool true := hd 17 (by omega) (by kernel_rfl)
      have h19 : us 19 = .int .i64 a1_0 := hd 19 (by omega) (by kernel_rfl)
      have h21 : us 21 = .int .i64 a1_1 := hd 21 (by omega) (by kernel_rfl)
      have h22 : us 22 = .int .u64 (we : Int) := hd 22 (by omega) (by kernel_rfl)
      clear hd
      rw [h17]
      refine hop_call rfl rfl rfl (f := 15) (args := #[.int .i64 a1_0, .int .i64 a1_1, .int .u64 (we : Int)]) (by go_simp) ?_
      refine (CBO.out W2).mono ?_
      rintro e W' ⟨rfl, rfl⟩
      exact ⟨_, rfl, Grows.refl _, rfl⟩
    | 24, _ =>
      have h17 : us 17 = .bool true := hd 17 (by omega) (by kernel_rfl)
      clear hd
      rw [h17]
      exact hop_value rfl rfl rfl (v := .pointer (some ⟨bX, 0, none⟩)) (W' := W2) (by go_simp) (Grows.refl _) rfl
    | 25, _ =>
      have h17 : us 17 = .bool true := hd 17 (by omega) (by kernel_rfl)
      have h24 : us 24 = .pointer (some ⟨bX, 0, none⟩) := hd 24 (by omega) (by kernel_rfl)
      clear hd
      rw [h17]
      have q := (hG.cell (b := bX) (o := 0) LX.out).trans X0.out
      have ql := Nat.lt_of_lt_of_le LX.out hG.size
      exact hop_value rfl rfl rfl (v := .int .i64 a1_0) (W' := W2) (by go_simp) (Grows.refl _) rfl
    | 26, _ =>
      have h17 : us 17 = .bool true := hd 17 (by omega) (by kernel_rfl)
      clear hd
      rw [h17]
      exact hop_value rfl rfl rfl (v := .pointer (some ⟨bX, 1, none⟩)) (W' := W2) (by go_simp) (Grows.refl _) rfl
    | 27, _ =>
      have h17 : us 17 = .bool true := hd 17 (by omega) (by kernel_rfl)
      have h26 : us 26 = .pointer (some ⟨bX, 1, none⟩) := hd 26 (by omega) (by kernel_rfl)
      clear hd
      rw [h17]
      have q := (hG.cell (b := bX) (o := 1) LX.out).trans X1.out
      have ql := Nat.lt_of_lt_of_le LX.out hG.size
      exact hop_value rfl rfl rfl (v := .int .i64 a1_1) (W' := W2) (by go_simp) (Grows.refl _) rfl
    | 28, _ =>
      have h17 : us 17 = .bool true := hd 17 (by omega) (by kernel_rfl)
      clear hd
      rw [h17]
      exact hop_value rfl rfl rfl (v := .int .u64 (we : Int)) (W' := W2) (by go_simp) (Grows.refl _) rfl
    | 29, _ =>
      have h17 : us 17 = .bool true := hd 17 (by omega) (by kernel_rfl)
      have h25 : us 25 = .int .i64 a1_0 := hd 25 (by omega) (by kernel_rfl)
      have h27 : us 27 = .int .i64 a1_1 := hd 27 (by omega) (by kernel_rfl)
      have h28 : us 28 = .int .u64 (we : Int) := hd 28 (by omega) (by kernel_rfl)
      clear hd
      rw [h17]
      refine hop_call rfl rfl rfl (f := 16) (args := #[.int .i64 a1_0, .int .i64 a1_1, .int .u64 (we : Int)]) (by go_simp) ?_
      refine (RBO.out W2).mono ?_
      rintro e W' ⟨rfl, rfl⟩
      exact ⟨_, rfl, Grows.refl _, rfl⟩
    | 30, _ =>
      have h17 : us 17 = .bool true := hd 17 (by omega) (by kernel_rfl)
      have h23 : us 23 = .int .i64 (bo : Int) := hd 23 (by omega) (by kernel_rfl)
      have h29 : us 29 = .int .i64 (bo : Int) := hd 29 (by omega) (by kernel_rfl)
      clear hd
      rw [h17]
      exact hop_value rfl rfl rfl (v := .bool true) (W' := W2) (by go_simp) (Grows.refl _) rfl
    | 31, _ =>
      have h17 : us 17 = .bool true := hd 17 (by omega) (by kernel_rfl)
      have h30 : us 30 = .bool true := hd 30 (by omega) (by kernel_rfl)
      clear hd
      exact hop_value rfl rfl rfl (v := .bool true) (W' := W2) (by go_simp) (Grows.refl _) rfl
    | d + 32, h => exact absurd h (by omega)
  case htailA =>
    intro us W2 hG hf
    have hz : us 31 = .bool true := hf 31 (by omega)
    clear hf
    rw [hz]
    have HG2 := Lib.hid hG
    clear hz hG
    simp only [List.drop_succ_cons, List.drop_zero]
    repeat (go_big_quiet_step (fail))
    refine wpQuiet_nil ?_
    rintro w' ⟨nq, rfl⟩
    have HBX := Lib.hid (below_drewN HG2.out nq)
    clear HG2
    generalize W2.drewN nq = wy at *
    go_wp2
    go_ret
    exact ⟨rfl, thn HB4.out HBX.out⟩

set_option maxRecDepth 100000 in
theorem lifted (os : Os) (started : os.Started) (H : Type) (enc : TypeId × Value → H) :
    ReturnsInHanded {} Try.checked os 3 .any (Rows.checkTellsSpec.pre6 enc Try.prog Try.f3 Rows.checkTellsRow.domain false) (Rows.checkTellsSpec.post enc Try.prog Try.f3 false true false false) := by
  refine returnsInHanded_of_change (C := Try.checked) own started (by kernel_rfl) Try.func3
    (ChangeSpec.witness6 (enc := enc) (C := Try.checked) false ⟨#[], #[.agg #[.int .i64 0, .int .i64 0, .slice none 0 0], .agg #[.int .i64 0, .int .i64 0], .int .u64 0], []⟩ 8 (by kernel_rfl) (by kernel_rfl) (by kernel_rfl) (by kernel_rfl)) ?_
  intro W base args ds gs before hval0 hW hcnd _
  have hval : ∀ (j : Nat) t v, Try.f3.params[j]? = some t → args[j]? = some v → Value.okWide Try.prog W .any base t v := hval0
  have hW' := hW
  obtain ⟨p, q, hA0, hV, rfl, hfz, hnd⟩ := hW
  have hA : DataW.TrodAll enc Try.prog W 0 (fun _ => true) true Try.f3.params.toList args.toList ds p := hA0
  rw [Try.params3] at hA hval
  obtain ⟨v0, vs0, d0, ds0, p0, q0, hargs, rfl, rfl, h0, r0⟩ := trodAll_cons hA
  obtain ⟨v1, vs1, d1, ds1, p1, q1, rfl, rfl, rfl, h1, r1⟩ := trodAll_cons r0
  obtain ⟨v2, vs2, d2, ds2, p2, q2, rfl, rfl, rfl, h2, r2⟩ := trodAll_cons r1
  obtain ⟨rfl, rfl, rfl⟩ := trodAll_nil r2
  obtain rfl : args = #[v0, v1, v2] := by cases args; simp_all
  obtain ⟨rfl, rfl⟩ := trodVars_none hV
  have k0 := h0
  have lt0 : ∀ x ∈ p0, x.block < W.heap.size := by obtain ⟨m, hm⟩ := k0; exact DataW.trod_lt m _ _ _ hm
  obtain ⟨a0_0, a0_1, a0, cap0, ls0, rfl, w0_0, w0_1, w0, wb0⟩ := Op.open_raw (f := 9) (e1 := 45) (e := 44) Try.underlying24 (by kernel_rfl) (by kernel_rfl) (by kernel_rfl) ⟨rfl, rfl, rfl⟩ ⟨by kernel_rfl, by kernel_rfl, by kernel_rfl⟩ (by kernel_rfl) (by kernel_rfl) (by kernel_rfl) (by kernel_rfl) (by kernel_rfl) (hval 0 24 v0 rfl rfl) h0
  have k1 := h1
  have lt1 : ∀ x ∈ p1, x.block < W.heap.size := by obtain ⟨m, hm⟩ := k1; exact DataW.trod_lt m _ _ _ hm
  obtain ⟨c1, rfl, fit1⟩ := Op.open_flat (f := 9) (ks := [.i64, .i64]) (by kernel_rfl) (by kernel_rfl) (hval 1 25 v1 rfl rfl) h1
  obtain ⟨a1_0, a1_1, rfl, w1_0, w1_1⟩ := fit1_of fit1
  obtain ⟨a2, rfl, rfl, rfl, w2⟩ := open_int Try.underlying26 (hval 2 26 v2 rfl rfl) h2
  clear hA0 hval0
  refine (walk a0_0 a0_1 a0 cap0 ls0 a1_0 a1_1 a2 W w0_0 w0_1 w0 wb0 w1_0 w1_1 w2).mono fun e W' ⟨he, bel⟩ => ?_
  subst he
  exact ⟨_, rfl, _, _, _, [], _, [], hW', trodAll_mk1 (shut_bool Try.underlying4 _), (trodAll_cons_mk (Below.trod laidOut (by kernel_rfl) (of_decide_eq_true (by kernel_rfl)) k0 bel lt0) (trodAll_cons_mk (Below.trod laidOut (by kernel_rfl) (of_decide_eq_true (by kernel_rfl)) k1 bel lt1) (trodAll_cons_mk (shut_int Try.underlying26 w2) trodAll_mk0))), rfl, bel.frame _, fun h => by cases h⟩

theorem over : Rows.checkTellsRow.holds Try.pinned (OpenSpec.ofChange Rows.checkTellsSpec) :=
  OpenClaim.holds_of_wide 3 Try.f3 rfl rfl rfl rfl rfl rfl rfl ⟨rfl, rfl, rfl, rfl, rfl⟩ rfl rfl rfl rfl rfl (by kernel_rfl) Try.func3 (by kernel_rfl)
    (of_decide_eq_true (by kernel_rfl)) (by unfold Func.isWrapper; first | (rw [if_pos (by decide +kernel)]; kernel_rfl) | (rw [if_neg (by decide +kernel)]; exact ⟨rfl, rfl⟩))
    (fun os started H enc _ => lifted os started H enc)

/-- The statement. -/
theorem proved : Rows.CheckTellsSaid := over
#print axioms proved
end Go.Proofs.Ytoplbjanemjebaa.checkTells
