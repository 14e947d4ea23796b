/-
  'skylight/skylightlaw08.EstimateDrops' returns true for every input, and the input reads afterwards as it read before. Conditions: none.
-/
import Derived.Test.YthmbmiikhghaoaaRows
import Derived.WalkKit
import Derived.ProofKit
import Derived.OpenShut
import Derived.ShutString
import Derived.ChangeOld
import Derived.Below
import Derived.Test.YthmbmiikhghaoaaOpen
import Derived.Test.YthmbmiikhghaoaaEsAwk
import Derived.Test.YthmbmiikhghaoaaXDrop
namespace Go.Proofs.Ythmbmiikhghaoaa.estimateDrops
open Go.Proofs Go.Proofs.Rn Go.Proofs.Lm Go.Proofs.Op Go.Proofs.Rw Go.Proofs.Lh Go.Proofs.Rf
open Go.ChangeShapes Go.WideShapes Go.ChangeAt Go.RowKit
open Go.ChangeMaps (open_string shut_string)
set_option linter.unusedVariables false

theorem own : ownKnob Try.prog.godebug = none := by kernel_rfl
theorem laidOut : laidOutB Try.prog = true := by kernel_rfl

/-- A slice of integers that came in: nil, or a row of cells of its capacity, each fitting its kind. -/
def IsRow (k : IntKind) (w : World) (a : Option Addr) (len cap : Nat) (zs : List Int) : Prop :=
  (a = none ∧ len = 0 ∧ cap = 0 ∧ zs = []) ∨
  ∃ x, a = some x ∧ len ≤ cap ∧ cap ≤ maxLen ∧ zs.length = cap ∧ (∀ i, i < zs.length → w.cell? (x.add i) = some (.int k (zs.getD i 0))) ∧ ∀ n ∈ zs, (Lit.int k n).wf = true

theorem fit2_of {c : List Value} (h : Op.Fits [.u64, .u64, .u64, .u64] c) : ∃ x0 x1 x2 x3 : Int, c = [.int .u64 x0, .int .u64 x1, .int .u64 x2, .int .u64 x3] ∧ (Lit.int .u64 x0).wf = true ∧ (Lit.int .u64 x1).wf = true ∧ (Lit.int .u64 x2).wf = true ∧ (Lit.int .u64 x3).wf = true := by
  cases c with
  | nil => exact h.elim
  | cons y0 c =>
  have g0 := h.1
  replace h := h.2
  cases c with
  | nil => exact h.elim
  | cons y1 c =>
  have g1 := h.1
  replace h := h.2
  cases c with
  | nil => exact h.elim
  | cons y2 c =>
  have g2 := h.1
  replace h := h.2
  cases c with
  | nil => exact h.elim
  | cons y3 c =>
  have g3 := h.1
  replace h := h.2
  cases c with
  | cons y c => exact h.elim
  | nil =>
  obtain ⟨x0, e0, e0w⟩ := g0
  obtain ⟨x1, e1, e1w⟩ := g1
  obtain ⟨x2, e2, e2w⟩ := g2
  obtain ⟨x3, e3, e3w⟩ := g3
  exact ⟨x0, x1, x2, x3, by rw [e0, e1, e2, e3], e0w, e1w, e2w, e3w⟩

open Go.RowKit Go.Shelf Go.Proofs.Rw Go.Proofs.Lh Go.Proofs.Rf

set_option maxRecDepth 100000 in
set_option maxHeartbeats 4000000 in
theorem walk (a0 : Int) (a1 : Option Addr) (len1 cap1 : Nat) (z1 : Nat → Nat → Int) (a2_0 a2_1 a2_2 a2_3 : Int) (w : World) (w0 : (Lit.int .i64 a0).wf = true) (w1 : Op.FlatRow [.u64, .u64] w a1 len1 cap1 z1) (w2_0 : (Lit.int .u64 a2_0).wf = true) (w2_1 : (Lit.int .u64 a2_1).wf = true) (w2_2 : (Lit.int .u64 a2_2).wf = true) (w2_3 : (Lit.int .u64 a2_3).wf = true) :
    Calls Try.prog 6 #[.int .i64 a0, .slice a1 len1 cap1, .agg #[.int .u64 a2_0, .int .u64 a2_1, .int .u64 a2_2, .int .u64 a2_3]] w fun e w' => e = .returned (.bool true) ∧ Below w.heap.size w w' := by
  obtain ⟨ds, hdl1, hdL1, hdB1⟩ := sp_of_row w1
  have hD1 : Deeds w a1 len1 cap1 ds := ⟨hdl1, hdL1, hdB1⟩
  obtain ⟨b00, b01⟩ := bounds_i64 w0
  have hk1 := kOf_le a0
  have hdn1 : doneN ds ≤ ds.length := by unfold doneN; omega
  have hmd : Made (kOf a0) (play (kOf a0) ds (doneN ds)).2 := play_made hk1.1 (by omega) ds _ hdn1
  have hma := fun (W : World) (hW : Below w.heap.size w W) => rmade_any a0 b00 (by omega) ds W a1 len1 cap1 (hD1.grow hW)
  obtain ⟨c00, c01⟩ := bounds_u64 w2_0
  obtain ⟨n0, rfl⟩ : ∃ n : Nat, a2_0 = (n : Int) := ⟨a2_0.toNat, by omega⟩
  have hb0 : n0 < 18446744073709551616 := by omega
  clear c00 c01 w2_0
  obtain ⟨c10, c11⟩ := bounds_u64 w2_1
  obtain ⟨n1, rfl⟩ : ∃ n : Nat, a2_1 = (n : Int) := ⟨a2_1.toNat, by omega⟩
  have hb1 : n1 < 18446744073709551616 := by omega
  clear c10 c11 w2_1
  obtain ⟨c20, c21⟩ := bounds_u64 w2_2
  obtain ⟨n2, rfl⟩ : ∃ n : Nat, a2_2 = (n : Int) := ⟨a2_2.toNat, by omega⟩
  have hb2 : n2 < 18446744073709551616 := by omega
  clear c20 c21 w2_2
  obtain ⟨c30, c31⟩ := bounds_u64 w2_3
  obtain ⟨n3, rfl⟩ : ∃ n : Nat, a2_3 = (n : Int) := ⟨a2_3.toNat, by omega⟩
  have hb3 : n3 < 18446744073709551616 := by omega
  clear c30 c31 w2_3
  obtain ⟨kk, hkk⟩ : ∃ x, kOf a0 = x := ⟨_, rfl⟩
  rw [hkk] at hmd
  simp only [hkk] at hma
  obtain ⟨L, hL⟩ : ∃ x, (play kk ds (doneN ds)).2 = x := ⟨_, rfl⟩
  rw [hL] at hmd
  simp only [hL] at hma
  obtain ⟨N, hN⟩ : ∃ x, L.length = x := ⟨_, rfl⟩
  simp only [hN] at hma
  have hln : N ≤ 53 := by have := hmd.len; omega
  have HMA := Lib.hid hma
  have HN := Lib.hid hN
  have HMD := Lib.hid hmd
  clear hma hmd hN hD1 hdl1 hdL1 hdB1 hkk hL w1 hdn1 hk1 w0
  have hbx : (w.alloc (.cells #[.int .u64 (n0 : Int), .int .u64 (n1 : Int), .int .u64 (n2 : Int), .int .u64 (n3 : Int)] 39)).heap[w.heap.size]? = some (.cells #[.int .u64 (n0 : Int), .int .u64 (n1 : Int), .int .u64 (n2 : Int), .int .u64 (n3 : Int)] 39) := heap_alloc_new w _
  have HBX := Lib.hid hbx
  clear hbx
  go_enter Try.func6, Try.ntmps6
  go_upto_region 3 with (first
    | (go_at_call 8; refine (awake_any _).mono ?_; rintro e wa ⟨rfl, ha⟩; have t := (ha.block w.heap.size (by simp)).trans HBX.out; have HX := Lib.hid t; have HLX := Lib.hid (lt_of t); have HWA := Lib.hid (((Below.refl _ w).alloc (Nat.le_refl _) _).trans (ha.mono (by simp))); clear ha t)
    | (go_at_call 9; refine (HMA.out wa HWA.out).mono ?_; rintro e wb ⟨A, c, rfl, hL, hb⟩; have HL1 := Lib.hid hL; have HB1 := Lib.hid hb; clear hL hb)
    | (go_at_call 11; refine (lmade_any _ _ _ _ _ _).mono ?_; rintro e wc ⟨rfl, hb⟩; have HL2 := Lib.hid (HL1.out.grow hb); have HB2 := Lib.hid (thn HB1.out hb); clear hb))
  obtain ⟨W4, hW4⟩ : ∃ W, wc.alloc (.cells #[.int .i64 (kk : Int), .int .i64 0, .slice A N c] 32) = W := ⟨_, rfl⟩
  have hB4 : Below wc.heap.size wc W4 := by rw [← hW4]; exact (Below.refl _ wc).alloc (Nat.le_refl _) _
  have pH : W4.heap[wc.heap.size]? = some (.cells #[.int .i64 (kk : Int), .int .i64 0, .slice A N c] 32) := by rw [← hW4]; exact heap_alloc_new wc _
  have pX := (hB4.block _ (Nat.lt_of_lt_of_le HLX.out HB2.out.size)).trans ((HB2.out.block _ HLX.out).trans HX.out)
  rw [hW4]
  obtain ⟨bX, hbX⟩ : ∃ b, w.heap.size = b := ⟨_, rfl⟩
  obtain ⟨bH, hbH⟩ : ∃ b, wc.heap.size = b := ⟨_, rfl⟩
  rw [hbX] at pX ⊢
  rw [hbH] at pH ⊢
  have HL4 := Lib.hid (HL2.out.grow hB4)
  have HB4 := Lib.hid (thn (thn HWA.out HB2.out) hB4)
  have PH := Lib.hid pH
  have PX := Lib.hid pX
  have LH := Lib.hid (lt_of pH)
  have LX := Lib.hid (lt_of pX)
  obtain ⟨y0, y1, y2⟩ := box3 pH
  have Y0 := Lib.hid y0
  have Y1 := Lib.hid y1
  have Y2 := Lib.hid y2
  have x0 : W4.cell? ⟨bX, 0, none⟩ = some (.int .u64 (n0 : Int)) := by simp [World.cell?, pX]
  have X0 := Lib.hid x0
  have x1 : W4.cell? ⟨bX, 1, none⟩ = some (.int .u64 (n1 : Int)) := by simp [World.cell?, pX]
  have X1 := Lib.hid x1
  have x2 : W4.cell? ⟨bX, 2, none⟩ = some (.int .u64 (n2 : Int)) := by simp [World.cell?, pX]
  have X2 := Lib.hid x2
  have x3 : W4.cell? ⟨bX, 3, none⟩ = some (.int .u64 (n3 : Int)) := by simp [World.cell?, pX]
  have X3 := Lib.hid x3
  clear x0 x1 x2 x3 y0 y1 y2 pH pX hW4 hB4 hbX hbH HL1 HL2 HB1 HB2 HWA HX HLX HMA HBX
  obtain ⟨fr, hfr⟩ : ∃ x : Nat, n0 % 100000 = x := ⟨_, rfl⟩
  obtain ⟨wi, hwi⟩ : ∃ x : Nat, 1 + n1 % 100000 = x := ⟨_, rfl⟩
  obtain ⟨ti, hti⟩ : ∃ x : Nat, fr + n2 % 100000 = x := ⟨_, rfl⟩
  obtain ⟨sp, hsp⟩ : ∃ x : Nat, 1 + n3 % wi = x := ⟨_, rfl⟩
  have hsw : sp ≤ wi := by rw [← hsp]; have := Nat.mod_lt n3 (show 0 < wi by omega); omega
  have hfb : fr < 100000 := by omega
  have hwb : wi ≤ 100000 := by omega
  have hw1 : 1 ≤ wi := by omega
  have htb : ti < 200000 := by omega
  obtain ⟨D, hDD⟩ : ∃ x, dropL fr wi L = x := ⟨_, rfl⟩
  obtain ⟨M, hMD⟩ : ∃ x, D.length = x := ⟨_, rfl⟩
  have hmd2 := HMD.out.drop fr wi
  rw [hDD] at hmd2
  obtain ⟨es, hes⟩ : ∃ x, estL (withB ti sp) L = x := ⟨_, rfl⟩
  have hed : estL (withB ti sp) D = es := by
    obtain ⟨q1, q2⟩ := parts_drop (with_up ti sp) (f := fr) (w := wi) HMD.out.ok.turn (fun x hx => by
      unfold oldB at hx
      unfold withB
      rw [decide_eq_true_iff] at hx
      rw [decide_eq_false_iff_not]
      omega)
    rw [hDD] at q1 q2
    rw [← hes]
    unfold estL
    rw [q1, q2]
  have hd : ∀ W : World, Grows W4 W → Calls Try.prog 16 #[.agg #[.int .i64 (kk : Int), .int .i64 0, .slice A N c], .int .u64 (fr : Int), .int .u64 (wi : Int)] W fun e w' => ∃ A' c', e = .returned (.agg #[.int .i64 (kk : Int), .int .i64 0, .slice A' M c']) ∧ Levs w' w'.heap.size (.slice A' M c') D ∧ Below W.heap.size W w' := by
    intro W hW
    have := drop_any kk 0 L HMD.out fr wi (by omega) W A c (by rw [HN.out]; exact HL4.out.grow hW)
    rw [hDD, hMD, HN.out] at this
    exact this
  have hod : ∀ (W : World) (A' : Option Addr) (c' : Nat), Levs W W.heap.size (.slice A' M c') D → Calls Try.prog 13 #[.agg #[.int .i64 (kk : Int), .int .i64 0, .slice A' M c'], .int .u64 (ti : Int), .int .u64 (sp : Int)] W fun e w' => e = .returned (.int .u64 (es : Int)) ∧ Below W.heap.size W w' := by
    intro W A' c' hL
    have := of_any (kk : Int) 0 D (by have := hmd2.len; omega) (fun i => by have := hmd2.lev i; omega) (by have := hmd2.small; omega) ti sp (by omega) W A' c' (by rw [hMD]; exact hL)
    rw [hed, hMD] at this
    exact this
  have HD := Lib.hid hd
  have HOD := Lib.hid hod
  clear hd hod
  have CO' : ∀ W : World, Grows W4 W → Calls Try.prog 13 #[.agg #[.int .i64 (kk : Int), .int .i64 0, .slice A N c], .int .u64 (ti : Int), .int .u64 (sp : Int)] W fun e w' => e = .returned (.int .u64 (es : Int)) ∧ Below W.heap.size W w' := by
    intro W hW
    have := of_any (kk : Int) 0 L (by have := HMD.out.len; omega) (fun i => by have := HMD.out.lev i; omega) (by have := HMD.out.small; omega) ti sp (by omega) W A c (by rw [HN.out]; exact HL4.out.grow hW)
    rw [hes, HN.out] at this
    exact this
  have CO := Lib.hid CO'
  clear CO'
  clear hes hed hmd2 hMD hDD
  obtain ⟨y0, y1, y2⟩ := box3 PH.out
  have v0 := X0.out
  have v1 := X1.out
  have v2 := X2.out
  have v3 := X3.out
  have lH := LH.out
  have lX := LX.out
  have i0 : (n0 : Int) % 100000 = (fr : Int) := by omega
  have i1 : 1 + (n1 : Int) % 100000 = (wi : Int) := by omega
  have i2 : (fr : Int) + (n2 : Int) % 100000 = (ti : Int) := by omega
  have i3 : 1 + (n3 : Int) % (wi : Int) = (sp : Int) := by rw [← hsp]; simp
  have I0 := Lib.hid i0
  have I1 := Lib.hid i1
  have I2 := Lib.hid i2
  have I3 := Lib.hid i3
  have wne : ((wi : Int) == 0) = false := by rw [beq_eq_false_iff_ne]; omega
  have wne2 : (wi : Int) ≠ 0 := by omega
  have bsp : 1 + (n3 : Int) % (wi : Int) ≤ 18446744073709551615 := by omega
  clear i0 i1 i2 i3 hfr hwi hti hsp
  go_upto_region 4 with (fail)
  rw [I0.out]
  go_upto_region 5 with (fail)
  rw [I1.out]
  go_upto_region 6 with (fail)
  rw [I2.out]
  go_upto_region 7 with (fail)
  rw [I3.out]
  clear I0 I1 I2 I3 wne wne2 bsp y0 y1 y2 v0 v1 v2 v3 lH lX
  refine region_facts0 (fr := ?frA) 15 [35, 36, 37, 38, 39, 40, 41, 42, 43, 44, 45, 46, 47, 48, 49] (fun i v W => match i with
      | 0 => v = .bool true
      | 1 => v = .bool true
      | 2 => v = .agg #[.int .i64 (kk : Int), .int .i64 0, .slice A N c]
      | 3 => v = .int .u64 (fr : Int)
      | 4 => v = .int .u64 (wi : Int)
      | 5 => ∃ (A' : Option Addr) (c' : Nat), v = .agg #[.int .i64 (kk : Int), .int .i64 0, .slice A' M c'] ∧ Levs W W.heap.size (.slice A' M c') D
      | 6 => v = .int .u64 (ti : Int)
      | 7 => v = .int .u64 (sp : Int)
      | 8 => v = .int .u64 (es : Int)
      | 9 => v = .agg #[.int .i64 (kk : Int), .int .i64 0, .slice A N c]
      | 10 => v = .int .u64 (ti : Int)
      | 11 => v = .int .u64 (sp : Int)
      | 12 => v = .int .u64 (es : Int)
      | 13 => v = .bool true
      | 14 => v = .bool true
      | _ => True) rfl ?hBA (by kernel_rfl) (by kernel_rfl) (by kernel_rfl) ?hfrA ?hFA ?hopA ?htailA
  case hBA => kernel_rfl
  case hfrA =>
    intro us
    simp only [putL]
    go_simp
    rfl
  case hFA =>
    intro i v W W' hG h
    match i with
    | 0 => exact h
    | 1 => exact h
    | 2 => exact h
    | 3 => exact h
    | 4 => exact h
    | 5 => obtain ⟨A', c', h1, h2⟩ := h; exact ⟨A', c', h1, h2.grow hG⟩
    | 6 => exact h
    | 7 => exact h
    | 8 => exact h
    | 9 => exact h
    | 10 => exact h
    | 11 => exact h
    | 12 => exact h
    | 13 => exact h
    | 14 => exact h
    | n + 15 => trivial
  case hopA =>
    intro i hi us W2 hG hd
    match i, hi with
    | 0, _ =>
      clear hd
      exact hop_value rfl rfl rfl (v := .bool true) (W' := W2) (by go_simp) (Grows.refl _) rfl
    | 1, _ =>
      have h0 : us 0 = .bool true := hd 0 (by omega) (by kernel_rfl)
      clear hd
      exact hop_value rfl rfl rfl (v := .bool true) (W' := W2) (by go_simp) (Grows.refl _) rfl
    | 2, _ =>
      have h1 : us 1 = .bool true := hd 1 (by omega) (by kernel_rfl)
      clear hd
      rw [h1]
      have q0 := (hG.cell (b := bH) (o := 0) LH.out).trans Y0.out
      have q0l := Nat.lt_of_lt_of_le LH.out hG.size
      have q1 := (hG.cell (b := bH) (o := 1) LH.out).trans Y1.out
      have q1l := Nat.lt_of_lt_of_le LH.out hG.size
      have q2 := (hG.cell (b := bH) (o := 2) LH.out).trans Y2.out
      have q2l := Nat.lt_of_lt_of_le LH.out hG.size
      exact hop_value rfl rfl rfl (v := .agg #[.int .i64 (kk : Int), .int .i64 0, .slice A N c]) (W' := W2) (by go_simp) (Grows.refl _) rfl
    | 3, _ =>
      have h1 : us 1 = .bool true := hd 1 (by omega) (by kernel_rfl)
      clear hd
      rw [h1]
      exact hop_value rfl rfl rfl (v := .int .u64 (fr : Int)) (W' := W2) (by go_simp) (Grows.refl _) rfl
    | 4, _ =>
      have h1 : us 1 = .bool true := hd 1 (by omega) (by kernel_rfl)
      clear hd
      rw [h1]
      exact hop_value rfl rfl rfl (v := .int .u64 (wi : Int)) (W' := W2) (by go_simp) (Grows.refl _) rfl
    | 5, _ =>
      have h1 : us 1 = .bool true := hd 1 (by omega) (by kernel_rfl)
      have h2 : us 2 = .agg #[.int .i64 (kk : Int), .int .i64 0, .slice A N c] := hd 2 (by omega) (by kernel_rfl)
      have h3 : us 3 = .int .u64 (fr : Int) := hd 3 (by omega) (by kernel_rfl)
      have h4 : us 4 = .int .u64 (wi : Int) := hd 4 (by omega) (by kernel_rfl)
      clear hd
      rw [h1]
      refine hop_call rfl rfl rfl (f := 16) (args := #[.agg #[.int .i64 (kk : Int), .int .i64 0, .slice A N c], .int .u64 (fr : Int), .int .u64 (wi : Int)]) (by go_simp) ?_
      refine (HD.out W2 hG).mono ?_
      rintro e W' ⟨A', c', rfl, hL, hb⟩
      exact ⟨_, rfl, hb, A', c', rfl, hL⟩
    | 6, _ =>
      have h1 : us 1 = .bool true := hd 1 (by omega) (by kernel_rfl)
      clear hd
      rw [h1]
      exact hop_value rfl rfl rfl (v := .int .u64 (ti : Int)) (W' := W2) (by go_simp) (Grows.refl _) rfl
    | 7, _ =>
      have h1 : us 1 = .bool true := hd 1 (by omega) (by kernel_rfl)
      clear hd
      rw [h1]
      exact hop_value rfl rfl rfl (v := .int .u64 (sp : Int)) (W' := W2) (by go_simp) (Grows.refl _) rfl
    | 8, _ =>
      have h1 : us 1 = .bool true := hd 1 (by omega) (by kernel_rfl)
      have h5 : ∃ (A' : Option Addr) (c' : Nat), us 5 = .agg #[.int .i64 (kk : Int), .int .i64 0, .slice A' M c'] ∧ Levs W2 W2.heap.size (.slice A' M c') D := hd 5 (by omega) (by kernel_rfl)
      have h6 : us 6 = .int .u64 (ti : Int) := hd 6 (by omega) (by kernel_rfl)
      have h7 : us 7 = .int .u64 (sp : Int) := hd 7 (by omega) (by kernel_rfl)
      clear hd
      rw [h1]
      obtain ⟨A8, c8, h8e, h8L⟩ := h5
      refine hop_call rfl rfl rfl (f := 13) (args := #[.agg #[.int .i64 (kk : Int), .int .i64 0, .slice A8 M c8], .int .u64 (ti : Int), .int .u64 (sp : Int)]) (by go_simp) ?_
      refine (HOD.out W2 A8 c8 h8L).mono ?_
      rintro e W' ⟨rfl, hb⟩
      exact ⟨_, rfl, hb, rfl⟩
    | 9, _ =>
      have h1 : us 1 = .bool true := hd 1 (by omega) (by kernel_rfl)
      clear hd
      rw [h1]
      have q0 := (hG.cell (b := bH) (o := 0) LH.out).trans Y0.out
      have q0l := Nat.lt_of_lt_of_le LH.out hG.size
      have q1 := (hG.cell (b := bH) (o := 1) LH.out).trans Y1.out
      have q1l := Nat.lt_of_lt_of_le LH.out hG.size
      have q2 := (hG.cell (b := bH) (o := 2) LH.out).trans Y2.out
      have q2l := Nat.lt_of_lt_of_le LH.out hG.size
      exact hop_value rfl rfl rfl (v := .agg #[.int .i64 (kk : Int), .int .i64 0, .slice A N c]) (W' := W2) (by go_simp) (Grows.refl _) rfl
    | 10, _ =>
      have h1 : us 1 = .bool true := hd 1 (by omega) (by kernel_rfl)
      clear hd
      rw [h1]
      exact hop_value rfl rfl rfl (v := .int .u64 (ti : Int)) (W' := W2) (by go_simp) (Grows.refl _) rfl
    | 11, _ =>
      have h1 : us 1 = .bool true := hd 1 (by omega) (by kernel_rfl)
      clear hd
      rw [h1]
      exact hop_value rfl rfl rfl (v := .int .u64 (sp : Int)) (W' := W2) (by go_simp) (Grows.refl _) rfl
    | 12, _ =>
      have h1 : us 1 = .bool true := hd 1 (by omega) (by kernel_rfl)
      have h9 : us 9 = .agg #[.int .i64 (kk : Int), .int .i64 0, .slice A N c] := hd 9 (by omega) (by kernel_rfl)
      have h10 : us 10 = .int .u64 (ti : Int) := hd 10 (by omega) (by kernel_rfl)
      have h11 : us 11 = .int .u64 (sp : Int) := hd 11 (by omega) (by kernel_rfl)
      clear hd
      rw [h1]
      refine hop_call rfl rfl rfl (f := 13) (args := #[.agg #[.int .i64 (kk : Int), .int .i64 0, .slice A N c], .int .u64 (ti : Int), .int .u64 (sp : Int)]) (by go_simp) ?_
      refine (CO.out W2 hG).mono ?_
      rintro e W' ⟨rfl, hb⟩
      exact ⟨_, rfl, hb, rfl⟩
    | 13, _ =>
      have h1 : us 1 = .bool true := hd 1 (by omega) (by kernel_rfl)
      have h8 : us 8 = .int .u64 (es : Int) := hd 8 (by omega) (by kernel_rfl)
      have h12 : us 12 = .int .u64 (es : Int) := hd 12 (by omega) (by kernel_rfl)
      clear hd
      rw [h1]
      exact hop_value rfl rfl rfl (v := .bool true) (W' := W2) (by go_simp) (Grows.refl _) rfl
    | 14, _ =>
      have h1 : us 1 = .bool true := hd 1 (by omega) (by kernel_rfl)
      have h13 : us 13 = .bool true := hd 13 (by omega) (by kernel_rfl)
      clear hd
      exact hop_value rfl rfl rfl (v := .bool true) (W' := W2) (by go_simp) (Grows.refl _) rfl
    | d + 15, h => exact absurd h (by omega)
  case htailA =>
    intro us W2 hG hf
    have hz : us 14 = .bool true := hf 14 (by omega)
    clear hf
    rw [hz]
    have HG2 := Lib.hid hG
    clear hz hG
    simp only [List.drop_succ_cons, List.drop_zero]
    repeat (go_big_quiet_step (fail))
    refine wpQuiet_nil ?_
    rintro w' ⟨nq, rfl⟩
    have HBX := Lib.hid (below_drewN HG2.out nq)
    clear HG2
    generalize W2.drewN nq = wy at *
    go_wp2
    go_ret
    exact ⟨rfl, thn HB4.out HBX.out⟩

set_option maxRecDepth 100000 in
theorem lifted (os : Os) (started : os.Started) (H : Type) (enc : TypeId × Value → H) :
    ReturnsInHanded {} Try.checked os 6 .any (Rows.estimateDropsSpec.pre6 enc Try.prog Try.f6 Rows.estimateDropsRow.domain false) (Rows.estimateDropsSpec.post enc Try.prog Try.f6 false true false false) := by
  refine returnsInHanded_of_change (C := Try.checked) own started (by kernel_rfl) Try.func6
    (ChangeSpec.witness6 (enc := enc) (C := Try.checked) false ⟨#[], #[.int .i64 0, .slice none 0 0, .agg #[.int .u64 0, .int .u64 0, .int .u64 0, .int .u64 0]], []⟩ 8 (by kernel_rfl) (by kernel_rfl) (by kernel_rfl) (by kernel_rfl)) ?_
  intro W base args ds gs before hval0 hW hcnd _
  have hval : ∀ (j : Nat) t v, Try.f6.params[j]? = some t → args[j]? = some v → Value.okWide Try.prog W .any base t v := hval0
  have hW' := hW
  obtain ⟨p, q, hA0, hV, rfl, hfz, hnd⟩ := hW
  have hA : DataW.TrodAll enc Try.prog W 0 (fun _ => true) true Try.f6.params.toList args.toList ds p := hA0
  rw [Try.params6] at hA hval
  obtain ⟨v0, vs0, d0, ds0, p0, q0, hargs, rfl, rfl, h0, r0⟩ := trodAll_cons hA
  obtain ⟨v1, vs1, d1, ds1, p1, q1, rfl, rfl, rfl, h1, r1⟩ := trodAll_cons r0
  obtain ⟨v2, vs2, d2, ds2, p2, q2, rfl, rfl, rfl, h2, r2⟩ := trodAll_cons r1
  obtain ⟨rfl, rfl, rfl⟩ := trodAll_nil r2
  obtain rfl : args = #[v0, v1, v2] := by cases args; simp_all
  obtain ⟨rfl, rfl⟩ := trodVars_none hV
  obtain ⟨a0, rfl, rfl, rfl, w0⟩ := open_int Try.underlying3 (hval 0 3 v0 rfl rfl) h0
  obtain ⟨a1, len1, cap1, rfl⟩ := okWide_slice Try.underlying22 (hval 1 22 v1 rfl rfl)
  have k1 := h1
  have lt1 : ∀ x ∈ p1, x.block < W.heap.size := by obtain ⟨m, hm⟩ := k1; exact DataW.trod_lt m _ _ _ hm
  obtain ⟨z1, w1⟩ := Op.open_flats (f := 9) (ks := [.u64, .u64]) Try.underlying22 (by kernel_rfl) (by kernel_rfl) (by decide) h1
  have k2 := h2
  have lt2 : ∀ x ∈ p2, x.block < W.heap.size := by obtain ⟨m, hm⟩ := k2; exact DataW.trod_lt m _ _ _ hm
  obtain ⟨c2, rfl, fit2⟩ := Op.open_flat (f := 9) (ks := [.u64, .u64, .u64, .u64]) (by kernel_rfl) (by kernel_rfl) (hval 2 39 v2 rfl rfl) h2
  obtain ⟨a2_0, a2_1, a2_2, a2_3, rfl, w2_0, w2_1, w2_2, w2_3⟩ := fit2_of fit2
  clear hA0 hval0
  refine (walk a0 a1 len1 cap1 z1 a2_0 a2_1 a2_2 a2_3 W w0 w1 w2_0 w2_1 w2_2 w2_3).mono fun e W' ⟨he, bel⟩ => ?_
  subst he
  exact ⟨_, rfl, _, _, _, [], _, [], hW', trodAll_mk1 (shut_bool Try.underlying4 _), (trodAll_cons_mk (shut_int Try.underlying3 w0) (trodAll_cons_mk (Below.trod laidOut (by kernel_rfl) (of_decide_eq_true (by kernel_rfl)) k1 bel lt1) (trodAll_cons_mk (Below.trod laidOut (by kernel_rfl) (of_decide_eq_true (by kernel_rfl)) k2 bel lt2) trodAll_mk0))), rfl, bel.frame _, fun h => by cases h⟩

theorem over : Rows.estimateDropsRow.holds Try.pinned (OpenSpec.ofChange Rows.estimateDropsSpec) :=
  OpenClaim.holds_of_wide 6 Try.f6 rfl rfl rfl rfl rfl rfl rfl ⟨rfl, rfl, rfl, rfl, rfl⟩ rfl rfl rfl rfl rfl (by kernel_rfl) Try.func6 (by kernel_rfl)
    (of_decide_eq_true (by kernel_rfl)) (by unfold Func.isWrapper; first | (rw [if_pos (by decide +kernel)]; kernel_rfl) | (rw [if_neg (by decide +kernel)]; exact ⟨rfl, rfl⟩))
    (fun os started H enc _ => lifted os started H enc)

/-- The statement. -/
theorem proved : Rows.EstimateDropsSaid := over
#print axioms proved
end Go.Proofs.Ythmbmiikhghaoaa.estimateDrops
