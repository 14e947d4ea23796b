/-
  'skylight/skylightlaw07.ExpiryTwice' returns true for every input, and the input reads afterwards as it read before. Conditions: none.
-/
import Derived.Test.YtafcgfhkeceiaaaRows
import Derived.WalkKit
import Derived.ProofKit
import Derived.OpenShut
import Derived.ShutString
import Derived.ChangeOld
import Derived.Below
import Derived.Test.YtafcgfhkeceiaaaOpen
import Derived.Test.YtafcgfhkeceiaaaXAwk
namespace Go.Proofs.Ytafcgfhkeceiaaa.expiryTwice
open Go.Proofs Go.Proofs.Rn Go.Proofs.Lm Go.Proofs.Op Go.Proofs.Rw Go.Proofs.Lh Go.Proofs.Rf
open Go.ChangeShapes Go.WideShapes Go.ChangeAt Go.RowKit
open Go.ChangeMaps (open_string shut_string)
set_option linter.unusedVariables false

theorem own : ownKnob Try.prog.godebug = none := by kernel_rfl
theorem laidOut : laidOutB Try.prog = true := by kernel_rfl

/-- A slice of integers that came in: nil, or a row of cells of its capacity, each fitting its kind. -/
def IsRow (k : IntKind) (w : World) (a : Option Addr) (len cap : Nat) (zs : List Int) : Prop :=
  (a = none ∧ len = 0 ∧ cap = 0 ∧ zs = []) ∨
  ∃ x, a = some x ∧ len ≤ cap ∧ cap ≤ maxLen ∧ zs.length = cap ∧ (∀ i, i < zs.length → w.cell? (x.add i) = some (.int k (zs.getD i 0))) ∧ ∀ n ∈ zs, (Lit.int k n).wf = true

theorem fit2_of {c : List Value} (h : Op.Fits [.u64, .u64, .u64] c) : ∃ x0 x1 x2 : Int, c = [.int .u64 x0, .int .u64 x1, .int .u64 x2] ∧ (Lit.int .u64 x0).wf = true ∧ (Lit.int .u64 x1).wf = true ∧ (Lit.int .u64 x2).wf = true := by
  cases c with
  | nil => exact h.elim
  | cons y0 c =>
  have g0 := h.1
  replace h := h.2
  cases c with
  | nil => exact h.elim
  | cons y1 c =>
  have g1 := h.1
  replace h := h.2
  cases c with
  | nil => exact h.elim
  | cons y2 c =>
  have g2 := h.1
  replace h := h.2
  cases c with
  | cons y c => exact h.elim
  | nil =>
  obtain ⟨x0, e0, e0w⟩ := g0
  obtain ⟨x1, e1, e1w⟩ := g1
  obtain ⟨x2, e2, e2w⟩ := g2
  exact ⟨x0, x1, x2, by rw [e0, e1, e2], e0w, e1w, e2w⟩

open Go.RowKit Go.Shelf Go.Proofs.Rw Go.Proofs.Lh Go.Proofs.Rf

set_option maxRecDepth 100000 in
set_option maxHeartbeats 4000000 in
theorem walk (a0 : Int) (a1 : Option Addr) (len1 cap1 : Nat) (z1 : Nat → Nat → Int) (a2_0 a2_1 a2_2 : Int) (w : World) (w0 : (Lit.int .i64 a0).wf = true) (w1 : Op.FlatRow [.u64, .u64] w a1 len1 cap1 z1) (w2_0 : (Lit.int .u64 a2_0).wf = true) (w2_1 : (Lit.int .u64 a2_1).wf = true) (w2_2 : (Lit.int .u64 a2_2).wf = true) :
    Calls Try.prog 5 #[.int .i64 a0, .slice a1 len1 cap1, .agg #[.int .u64 a2_0, .int .u64 a2_1, .int .u64 a2_2]] w fun e w' => e = .returned (.bool true) ∧ Below w.heap.size w w' := by
  obtain ⟨ds, hdl1, hdL1, hdB1⟩ := sp_of_row w1
  have hD1 : Deeds w a1 len1 cap1 ds := ⟨hdl1, hdL1, hdB1⟩
  obtain ⟨b00, b01⟩ := bounds_i64 w0
  have hk1 := kOf_le a0
  have hdn1 : doneN ds ≤ ds.length := by unfold doneN; omega
  have hmd : Made (kOf a0) (play (kOf a0) ds (doneN ds)).2 := play_made hk1.1 (by omega) ds _ hdn1
  have hma := fun (W : World) (hW : Below w.heap.size w W) => rmade_any a0 b00 (by omega) ds W a1 len1 cap1 (hD1.grow hW)
  obtain ⟨kk, hkk⟩ : ∃ x, kOf a0 = x := ⟨_, rfl⟩
  rw [hkk] at hmd
  simp only [hkk] at hma
  obtain ⟨L, hL⟩ : ∃ x, (play kk ds (doneN ds)).2 = x := ⟨_, rfl⟩
  rw [hL] at hmd
  simp only [hL] at hma
  obtain ⟨N, hN⟩ : ∃ x, L.length = x := ⟨_, rfl⟩
  simp only [hN] at hma
  have hln : N ≤ 53 := by have := hmd.len; omega
  have HMA := Lib.hid hma
  have HN := Lib.hid hN
  have HMD := Lib.hid hmd
  clear hma hmd hN hD1 hdl1 hdL1 hdB1 hkk hL w1 hdn1 hk1 w0
  obtain ⟨c00, c01⟩ := bounds_u64 w2_0
  obtain ⟨n0, rfl⟩ : ∃ n : Nat, a2_0 = (n : Int) := ⟨a2_0.toNat, by omega⟩
  have hb0 : n0 < 18446744073709551616 := by omega
  clear c00 c01 w2_0
  obtain ⟨c10, c11⟩ := bounds_u64 w2_1
  obtain ⟨n1, rfl⟩ : ∃ n : Nat, a2_1 = (n : Int) := ⟨a2_1.toNat, by omega⟩
  have hb1 : n1 < 18446744073709551616 := by omega
  clear c10 c11 w2_1
  obtain ⟨c20, c21⟩ := bounds_u64 w2_2
  obtain ⟨n2, rfl⟩ : ∃ n : Nat, a2_2 = (n : Int) := ⟨a2_2.toNat, by omega⟩
  have hb2 : n2 < 18446744073709551616 := by omega
  clear c20 c21 w2_2
  have hbx : (w.alloc (.cells #[.int .u64 (n0 : Int), .int .u64 (n1 : Int), .int .u64 (n2 : Int)] 24)).heap[w.heap.size]? = some (.cells #[.int .u64 (n0 : Int), .int .u64 (n1 : Int), .int .u64 (n2 : Int)] 24) := heap_alloc_new w _
  have HBX := Lib.hid hbx
  clear hbx
  go_enter Try.func5, Try.ntmps5
  go_upto_region 3 with (first
    | (go_at_call 8; refine (awake_any _).mono ?_; rintro e wa ⟨rfl, ha⟩; have t := (ha.block w.heap.size (by simp)).trans HBX.out; have HX := Lib.hid t; have HLX := Lib.hid (lt_of t); have HWA := Lib.hid (((Below.refl _ w).alloc (Nat.le_refl _) _).trans (ha.mono (by simp))); clear ha t)
    | (go_at_call 9; refine (HMA.out wa HWA.out).mono ?_; rintro e wb ⟨A, c, rfl, hL, hb⟩; have HL1 := Lib.hid hL; have HB1 := Lib.hid hb; clear hL hb)
    | (go_at_call 12; refine (lmade_any _ _ _ _ _ _).mono ?_; rintro e wc ⟨rfl, hb⟩; have HL2 := Lib.hid (HL1.out.grow hb); have HB2 := Lib.hid (thn HB1.out hb); clear hb))
  obtain ⟨W4, hW4⟩ : ∃ W, wc.alloc (.cells #[.int .i64 (kk : Int), .int .i64 0, .slice A N c] 31) = W := ⟨_, rfl⟩
  have hB4 : Below wc.heap.size wc W4 := by rw [← hW4]; exact (Below.refl _ wc).alloc (Nat.le_refl _) _
  have pH : W4.heap[wc.heap.size]? = some (.cells #[.int .i64 (kk : Int), .int .i64 0, .slice A N c] 31) := by rw [← hW4]; exact heap_alloc_new wc _
  have pX := (hB4.block _ (Nat.lt_of_lt_of_le HLX.out HB2.out.size)).trans ((HB2.out.block _ HLX.out).trans HX.out)
  rw [hW4]
  obtain ⟨bX, hbX⟩ : ∃ b, w.heap.size = b := ⟨_, rfl⟩
  obtain ⟨bH, hbH⟩ : ∃ b, wc.heap.size = b := ⟨_, rfl⟩
  rw [hbX] at pX ⊢
  rw [hbH] at pH ⊢
  have HL4 := Lib.hid (HL2.out.grow hB4)
  have HB4 := Lib.hid (thn (thn HWA.out HB2.out) hB4)
  have PH := Lib.hid pH
  have PX := Lib.hid pX
  have LH := Lib.hid (lt_of pH)
  have LX := Lib.hid (lt_of pX)
  obtain ⟨y0, y1, y2⟩ := box3 pH
  have Y0 := Lib.hid y0
  have Y1 := Lib.hid y1
  have Y2 := Lib.hid y2
  have x0 : W4.cell? ⟨bX, 0, none⟩ = some (.int .u64 (n0 : Int)) := by simp [World.cell?, pX]
  have X0 := Lib.hid x0
  have x1 : W4.cell? ⟨bX, 1, none⟩ = some (.int .u64 (n1 : Int)) := by simp [World.cell?, pX]
  have X1 := Lib.hid x1
  have x2 : W4.cell? ⟨bX, 2, none⟩ = some (.int .u64 (n2 : Int)) := by simp [World.cell?, pX]
  have X2 := Lib.hid x2
  clear x0 x1 x2 y0 y1 y2 pH pX hW4 hB4 hbX hbH HL1 HL2 HB1 HB2 HWA HX HLX HMA HBX
  obtain ⟨D1, hD1⟩ : ∃ x, dropL n0 n2 L = x := ⟨_, rfl⟩
  obtain ⟨D2, hD2⟩ : ∃ x, dropL n1 n2 D1 = x := ⟨_, rfl⟩
  have hmd1 := HMD.out.drop n0 n2
  rw [hD1] at hmd1
  have hmd2 := hmd1.drop n1 n2
  rw [hD2] at hmd2
  have hD3 : dropL (max n0 n1) n2 L = D2 := by rw [← hD2, ← hD1, drop_drop]
  have hln2 : D2.length ≤ 53 := hmd2.len
  have hlev2 : ∀ i, (lev D2 i).length ≤ 10000000 := fun i => by have := hmd2.lev i; omega
  have HD1' : ∀ W : World, Grows W4 W → Calls Try.prog 11 #[.agg #[.int .i64 (kk : Int), .int .i64 0, .slice A N c], .int .u64 (n0 : Int), .int .u64 (n2 : Int)] W fun e w' => ∃ A' c', e = .returned (.agg #[.int .i64 (kk : Int), .int .i64 0, .slice A' D1.length c']) ∧ Levs w' w'.heap.size (.slice A' D1.length c') D1 ∧ Below W.heap.size W w' := by
    intro W hW
    have := drop_any kk 0 L HMD.out n0 n2 hb0 W A c (by rw [HN.out]; exact HL4.out.grow hW)
    rw [hD1, HN.out] at this
    exact this
  have HD1 := Lib.hid HD1'
  clear HD1'
  have hd2 : ∀ (W : World) (A' : Option Addr) (c' : Nat), Levs W W.heap.size (.slice A' D1.length c') D1 → Calls Try.prog 11 #[.agg #[.int .i64 (kk : Int), .int .i64 0, .slice A' D1.length c'], .int .u64 (n1 : Int), .int .u64 (n2 : Int)] W fun e w' => ∃ A2 c2, e = .returned (.agg #[.int .i64 (kk : Int), .int .i64 0, .slice A2 D2.length c2]) ∧ Levs w' w'.heap.size (.slice A2 D2.length c2) D2 ∧ Below W.heap.size W w' := by
    intro W A' c' hL
    have := drop_any kk 0 D1 hmd1 n1 n2 hb1 W A' c' hL
    rw [hD2] at this
    exact this
  have hd3 : ∀ W : World, Grows W4 W → Calls Try.prog 11 #[.agg #[.int .i64 (kk : Int), .int .i64 0, .slice A N c], .int .u64 ((max n0 n1 : Nat) : Int), .int .u64 (n2 : Int)] W fun e w' => ∃ A2 c2, e = .returned (.agg #[.int .i64 (kk : Int), .int .i64 0, .slice A2 D2.length c2]) ∧ Levs w' w'.heap.size (.slice A2 D2.length c2) D2 ∧ Below W.heap.size W w' := by
    intro W hW
    have := drop_any kk 0 L HMD.out (max n0 n1) n2 (by omega) W A c (by rw [HN.out]; exact HL4.out.grow hW)
    rw [hD3, HN.out] at this
    exact this
  obtain ⟨M2, hM2⟩ : ∃ x, D2.length = x := ⟨_, rfl⟩
  have hsm : ∀ (W : World) (A8 : Option Addr) (c8 : Nat) (A9 : Option Addr) (c9 : Nat), Levs W W.heap.size (.slice A8 M2 c8) D2 → Levs W W.heap.size (.slice A9 M2 c9) D2 → Calls Try.prog 17 #[.agg #[.int .i64 (kk : Int), .int .i64 0, .slice A8 M2 c8], .agg #[.int .i64 (kk : Int), .int .i64 0, .slice A9 M2 c9]] W fun e w' => e = .returned (.bool true) ∧ Below W.heap.size W w' := by
    intro W A8 c8 A9 c9 h8 h9
    have := hsame_any (kk : Int) 0 (kk : Int) 0 D2 D2 (by omega) hlev2 W A8 A9 c8 c9 (by rw [hM2]; exact h8) (by rw [hM2]; exact h9)
    rw [show sameB (kk : Int) 0 (kk : Int) 0 D2 D2 = true by simp [sameB], hM2] at this
    exact this
  simp only [hM2] at hd3
  have HD2 := Lib.hid hd2
  have HD3 := Lib.hid hd3
  have HSM := Lib.hid hsm
  have HM2 := Lib.hid hM2
  clear hd2 hd3 hsm hM2 hD1 hD2 hD3 hmd1 hmd2 hlev2 hln2
  refine region_all (fr := ?frA) (fun i us W => match i with
      | 0 => us 0 = .agg #[.int .i64 (kk : Int), .int .i64 0, .slice A N c]
      | 1 => us 1 = .pointer (some ⟨bX, 0, none⟩)
      | 2 => us 2 = .int .u64 (n0 : Int)
      | 3 => us 3 = .pointer (some ⟨bX, 2, none⟩)
      | 4 => us 4 = .int .u64 (n2 : Int)
      | 5 => Hp (kk : Int) D1 (us 5) W
      | 6 => us 6 = .pointer (some ⟨bX, 1, none⟩)
      | 7 => us 7 = .int .u64 (n1 : Int)
      | 8 => us 8 = .pointer (some ⟨bX, 2, none⟩)
      | 9 => us 9 = .int .u64 (n2 : Int)
      | 10 => Hp (kk : Int) D2 (us 10) W
      | 11 => Nw3 31 W4.heap.size (us 11) W
      | 12 => Yb3 31 W4.heap.size (kk : Int) D2 (us 11) W
      | _ => True) (fun j W W' => Ea 31 W4.heap.size 12 j W W') (fun W => Below W4.heap.size W4 W) rfl ?hBA ?hfrA ?hlocA ?hstA ?hG0A ?hGA ?hopA ?hendA
  case hBA => kernel_rfl
  case hfrA =>
    intro us
    simp only [List.length_cons, List.length_nil, Nat.zero_add, Nat.reduceAdd, putO, dstO]
    go_simp
    rfl
  case hlocA =>
    intro i us us' W h hf
    match i with
    | 0 =>
      have e0 := h 0 (.inl rfl)
      try dsimp only at hf ⊢
      rw [e0] at hf
      exact hf
    | 1 =>
      have e1 := h 1 (.inl rfl)
      try dsimp only at hf ⊢
      rw [e1] at hf
      exact hf
    | 2 =>
      have e2 := h 2 (.inl rfl)
      try dsimp only at hf ⊢
      rw [e2] at hf
      exact hf
    | 3 =>
      have e3 := h 3 (.inl rfl)
      try dsimp only at hf ⊢
      rw [e3] at hf
      exact hf
    | 4 =>
      have e4 := h 4 (.inl rfl)
      try dsimp only at hf ⊢
      rw [e4] at hf
      exact hf
    | 5 =>
      have e5 := h 5 (.inl rfl)
      try dsimp only at hf ⊢
      rw [e5] at hf
      exact hf
    | 6 =>
      have e6 := h 6 (.inl rfl)
      try dsimp only at hf ⊢
      rw [e6] at hf
      exact hf
    | 7 =>
      have e7 := h 7 (.inl rfl)
      try dsimp only at hf ⊢
      rw [e7] at hf
      exact hf
    | 8 =>
      have e8 := h 8 (.inl rfl)
      try dsimp only at hf ⊢
      rw [e8] at hf
      exact hf
    | 9 =>
      have e9 := h 9 (.inl rfl)
      try dsimp only at hf ⊢
      rw [e9] at hf
      exact hf
    | 10 =>
      have e10 := h 10 (.inl rfl)
      try dsimp only at hf ⊢
      rw [e10] at hf
      exact hf
    | 11 =>
      have e11 := h 11 (.inl rfl)
      try dsimp only at hf ⊢
      rw [e11] at hf
      exact hf
    | 12 =>
      have e11 := h 11 (.inr (by kernel_rfl))
      try dsimp only at hf ⊢
      rw [e11] at hf
      exact hf
    | n + 13 => trivial
  case hstA =>
    intro i j us W W' hne hw hi hj hE hf
    match i with
    | 0 => exact hf
    | 1 => exact hf
    | 2 => exact hf
    | 3 => exact hf
    | 4 => exact hf
    | 5 =>
      exact Hp.ea (by decide) (by decide) hE hf
    | 6 => exact hf
    | 7 => exact hf
    | 8 => exact hf
    | 9 => exact hf
    | 10 =>
      exact Hp.ea (by decide) (by decide) hE hf
    | 11 =>
      exact Nw3.ea hE hf
    | 12 =>
      exact Yb3.ea hE (Ne.symm hne) hf
    | n + 13 => trivial
  case hG0A =>
    exact (Below.refl _ W4).drew
  case hGA =>
    intro j W W' hE hg
    exact Ea.below hE hg hg.size
  case hopA =>
    intro i hi us W hg hd hq
    match i, hi with
    | 0, _ =>
      clear hd hq
      have q0 := (hg.cell (p := ⟨bH, 0, none⟩) LH.out).trans Y0.out
      have q1 := (hg.cell (p := ⟨bH, 1, none⟩) LH.out).trans Y1.out
      have q2 := (hg.cell (p := ⟨bH, 2, none⟩) LH.out).trans Y2.out
      have ql := Nat.lt_of_lt_of_le LH.out hg.size
      refine all_value rfl rfl (.agg #[.int .i64 (kk : Int), .int .i64 0, .slice A N c]) W (by go_simp) ?_ ?_
      · exact .inl (Grows.refl _)
      · rfl
    | 1, _ =>
      clear hd hq
      refine all_value rfl rfl (.pointer (some ⟨bX, 0, none⟩)) W (by go_simp) ?_ ?_
      · exact .inl (Grows.refl _)
      · rfl
    | 2, _ =>
      have h1 : us 1 = .pointer (some ⟨bX, 0, none⟩) := hd 1 (by kernel_rfl)
      clear hd hq
      have qa := (hg.cell (p := ⟨bX, 0, none⟩) LX.out).trans X0.out
      have ql := Nat.lt_of_lt_of_le LX.out hg.size
      refine all_value rfl rfl (.int .u64 (n0 : Int)) W (by go_simp) ?_ ?_
      · exact .inl (Grows.refl _)
      · rfl
    | 3, _ =>
      clear hd hq
      refine all_value rfl rfl (.pointer (some ⟨bX, 2, none⟩)) W (by go_simp) ?_ ?_
      · exact .inl (Grows.refl _)
      · rfl
    | 4, _ =>
      have h3 : us 3 = .pointer (some ⟨bX, 2, none⟩) := hd 3 (by kernel_rfl)
      clear hd hq
      have qa := (hg.cell (p := ⟨bX, 2, none⟩) LX.out).trans X2.out
      have ql := Nat.lt_of_lt_of_le LX.out hg.size
      refine all_value rfl rfl (.int .u64 (n2 : Int)) W (by go_simp) ?_ ?_
      · exact .inl (Grows.refl _)
      · rfl
    | 5, _ =>
      have h0 : us 0 = .agg #[.int .i64 (kk : Int), .int .i64 0, .slice A N c] := hd 0 (by kernel_rfl)
      have h2 : us 2 = .int .u64 (n0 : Int) := hd 2 (by kernel_rfl)
      have h4 : us 4 = .int .u64 (n2 : Int) := hd 4 (by kernel_rfl)
      clear hd hq
      refine all_call rfl rfl 11 #[.agg #[.int .i64 (kk : Int), .int .i64 0, .slice A N c], .int .u64 (n0 : Int), .int .u64 (n2 : Int)] (by go_simp) ?_
      exact (HD1.out W hg).mono fun _ W' ⟨A', c', he, hL, hb⟩ => ⟨_, he, .inl hb, ⟨A', c', rfl, hL⟩⟩
    | 6, _ =>
      clear hd hq
      refine all_value rfl rfl (.pointer (some ⟨bX, 1, none⟩)) W (by go_simp) ?_ ?_
      · exact .inl (Grows.refl _)
      · rfl
    | 7, _ =>
      have h6 : us 6 = .pointer (some ⟨bX, 1, none⟩) := hd 6 (by kernel_rfl)
      clear hd hq
      have qa := (hg.cell (p := ⟨bX, 1, none⟩) LX.out).trans X1.out
      have ql := Nat.lt_of_lt_of_le LX.out hg.size
      refine all_value rfl rfl (.int .u64 (n1 : Int)) W (by go_simp) ?_ ?_
      · exact .inl (Grows.refl _)
      · rfl
    | 8, _ =>
      clear hd hq
      refine all_value rfl rfl (.pointer (some ⟨bX, 2, none⟩)) W (by go_simp) ?_ ?_
      · exact .inl (Grows.refl _)
      · rfl
    | 9, _ =>
      have h8 : us 8 = .pointer (some ⟨bX, 2, none⟩) := hd 8 (by kernel_rfl)
      clear hd hq
      have qa := (hg.cell (p := ⟨bX, 2, none⟩) LX.out).trans X2.out
      have ql := Nat.lt_of_lt_of_le LX.out hg.size
      refine all_value rfl rfl (.int .u64 (n2 : Int)) W (by go_simp) ?_ ?_
      · exact .inl (Grows.refl _)
      · rfl
    | 10, _ =>
      have h5 : Hp (kk : Int) D1 (us 5) W := hd 5 (by kernel_rfl)
      have h7 : us 7 = .int .u64 (n1 : Int) := hd 7 (by kernel_rfl)
      have h9 : us 9 = .int .u64 (n2 : Int) := hd 9 (by kernel_rfl)
      clear hd hq
      obtain ⟨A', c', e', hL'⟩ := h5
      refine all_call rfl rfl 11 #[.agg #[.int .i64 (kk : Int), .int .i64 0, .slice A' D1.length c'], .int .u64 (n1 : Int), .int .u64 (n2 : Int)] (by go_simp) ?_
      exact (HD2.out W A' c' hL').mono fun _ W' ⟨A2, c2, he, hL, hb⟩ => ⟨_, he, .inl hb, ⟨A2, c2, rfl, hL⟩⟩
    | 11, _ =>
      clear hd hq
      refine all_value rfl rfl (.pointer (some ⟨W.heap.size, 0, none⟩)) (W.alloc (.cells #[.int .i64 0, .int .i64 0, .slice none 0 0] 31)) (by go_simp) ?_ ?_
      · exact .inl (Grows.alloc _ _)
      · exact ⟨W.heap.size, _, _, _, rfl, hg.size, World.alloc_heap_new _ _⟩
    | 12, _ =>
      have h11 : Nw3 31 W4.heap.size (us 11) W := hd 11 (by kernel_rfl)
      have h10 : Hp (kk : Int) D2 (us 10) W := hd 10 (by kernel_rfl)
      clear hd hq
      obtain ⟨A', c', e9, hL⟩ := h10
      obtain ⟨p, x0, x1, x2, e11, hp, hblk⟩ := h11
      obtain ⟨q0, q1, q2⟩ := box3 hblk
      have f0 : ∀ i, W.frozen? ⟨p, i, none⟩ = false := fun i => by simp [World.frozen?, hblk]
      have HBK := Lib.hid hblk
      have hlp := lt_of hblk
      clear hblk
      refine all_skip rfl rfl (((W.setCell ⟨p, 0, none⟩ (.int .i64 (kk : Int))).setCell ⟨p, 1, none⟩ (.int .i64 0)).setCell ⟨p, 2, none⟩ (.slice A' D2.length c')) (by go_simp) ?_ ?_
      · exact .inr ⟨rfl, st3_set hp HBK.out _ _ _⟩
      · exact ⟨p, A', c', e11, hp, set3 HBK.out _ _ _, levs_set3 (by decide) (by decide) HBK.out _ _ _ hL⟩
    | n + 13, h => exact absurd h (by simp)
  case hendA =>
    intro us W hg hf
    have h12 : Yb3 31 W4.heap.size (kk : Int) D2 (us 11) W := hf 12 (by simp)
    clear hf
    obtain ⟨p, Ap, cp, e11, hp, hblk, hLp⟩ := h12
    rw [e11]
    rw [HM2.out] at hblk hLp
    have tH := (hg.block bH LH.out).trans PH.out
    have tX := (hg.block bX LX.out).trans PX.out
    obtain ⟨y0, y1, y2⟩ := box3 tH
    have v0 : W.cell? ⟨bX, 0, none⟩ = some (.int .u64 (n0 : Int)) := by simp [World.cell?, tX]
    have v1 : W.cell? ⟨bX, 1, none⟩ = some (.int .u64 (n1 : Int)) := by simp [World.cell?, tX]
    have v2 : W.cell? ⟨bX, 2, none⟩ = some (.int .u64 (n2 : Int)) := by simp [World.cell?, tX]
    have lH := lt_of tH
    have lX := lt_of tX
    have lp := lt_of hblk
    have d3 := HD3.out W hg
    have HBLK := Lib.hid hblk
    have HLP := Lib.hid hLp
    have HGG := Lib.hid hg
    clear hblk hLp hg tH tX e11
    by_cases hmx : n1 ≤ n0
    · have hmI : (n1 : Int) ≤ (n0 : Int) := by omega
      rw [show max n0 n1 = n0 by omega] at d3
      have DD3 := Lib.hid d3
      clear d3 hmx
      go_upto_region 5 with (go_at_call 11; refine DD3.out.mono ?_; rintro e w6 ⟨A2, c2, rfl, hL2, hb2⟩; have HL2 := Lib.hid hL2; have HB2 := Lib.hid hb2; clear hL2 hb2)
      obtain ⟨W6, hW6⟩ : ∃ W, w6.alloc (.cells #[.int .i64 (kk : Int), .int .i64 0, .slice A2 M2 c2] 31) = W := ⟨_, rfl⟩
      have p6 : W6.heap[w6.heap.size]? = some (.cells #[.int .i64 (kk : Int), .int .i64 0, .slice A2 M2 c2] 31) := by rw [← hW6]; exact heap_alloc_new w6 _
      have hB6 : Below w6.heap.size w6 W6 := by rw [← hW6]; exact (Below.refl _ w6).alloc (Nat.le_refl _) _
      rw [hW6]
      have p5 := (hB6.block _ (Nat.lt_of_lt_of_le lp HB2.out.size)).trans ((HB2.out.block _ lp).trans HBLK.out)
      obtain ⟨r0, r1, r2⟩ := box3 p5
      obtain ⟨s0, s1, s2⟩ := box3 p6
      have l5 := lt_of p5
      have l6 := lt_of p6
      have HA := Lib.hid ((HLP.out.grow HB2.out).grow hB6)
      have HB := Lib.hid (HL2.out.grow hB6)
      have HBB := Lib.hid (thn (thn (thn HB4.out HGG.out) HB2.out) hB6)
      clear p5 p6 hW6 y0 y1 y2 v0 v1 v2 lH lX lp hB6
      go_wp2_with (go_at_call 17; refine (HSM.out _ _ _ _ _ HA.out HB.out).mono ?_; rintro e w7 ⟨rfl, hb7⟩)
      go_ret
      exact ⟨rfl, thn HBB.out hb7⟩
    · have hmI : ¬ ((n1 : Int) ≤ (n0 : Int)) := by omega
      rw [show max n0 n1 = n1 by omega] at d3
      have DD3 := Lib.hid d3
      clear d3 hmx
      go_upto_region 5 with (go_at_call 11; refine DD3.out.mono ?_; rintro e w6 ⟨A2, c2, rfl, hL2, hb2⟩; have HL2 := Lib.hid hL2; have HB2 := Lib.hid hb2; clear hL2 hb2)
      obtain ⟨W6, hW6⟩ : ∃ W, w6.alloc (.cells #[.int .i64 (kk : Int), .int .i64 0, .slice A2 M2 c2] 31) = W := ⟨_, rfl⟩
      have p6 : W6.heap[w6.heap.size]? = some (.cells #[.int .i64 (kk : Int), .int .i64 0, .slice A2 M2 c2] 31) := by rw [← hW6]; exact heap_alloc_new w6 _
      have hB6 : Below w6.heap.size w6 W6 := by rw [← hW6]; exact (Below.refl _ w6).alloc (Nat.le_refl _) _
      rw [hW6]
      have p5 := (hB6.block _ (Nat.lt_of_lt_of_le lp HB2.out.size)).trans ((HB2.out.block _ lp).trans HBLK.out)
      obtain ⟨r0, r1, r2⟩ := box3 p5
      obtain ⟨s0, s1, s2⟩ := box3 p6
      have l5 := lt_of p5
      have l6 := lt_of p6
      have HA := Lib.hid ((HLP.out.grow HB2.out).grow hB6)
      have HB := Lib.hid (HL2.out.grow hB6)
      have HBB := Lib.hid (thn (thn (thn HB4.out HGG.out) HB2.out) hB6)
      clear p5 p6 hW6 y0 y1 y2 v0 v1 v2 lH lX lp hB6
      go_wp2_with (go_at_call 17; refine (HSM.out _ _ _ _ _ HA.out HB.out).mono ?_; rintro e w7 ⟨rfl, hb7⟩)
      go_ret
      exact ⟨rfl, thn HBB.out hb7⟩

set_option maxRecDepth 100000 in
theorem lifted (os : Os) (started : os.Started) (H : Type) (enc : TypeId × Value → H) :
    ReturnsInHanded {} Try.checked os 5 .any (Rows.expiryTwiceSpec.pre6 enc Try.prog Try.f5 Rows.expiryTwiceRow.domain false) (Rows.expiryTwiceSpec.post enc Try.prog Try.f5 false true false false) := by
  refine returnsInHanded_of_change (C := Try.checked) own started (by kernel_rfl) Try.func5
    (ChangeSpec.witness6 (enc := enc) (C := Try.checked) false ⟨#[], #[.int .i64 0, .slice none 0 0, .agg #[.int .u64 0, .int .u64 0, .int .u64 0]], []⟩ 8 (by kernel_rfl) (by kernel_rfl) (by kernel_rfl) (by kernel_rfl)) ?_
  intro W base args ds gs before hval0 hW hcnd _
  have hval : ∀ (j : Nat) t v, Try.f5.params[j]? = some t → args[j]? = some v → Value.okWide Try.prog W .any base t v := hval0
  have hW' := hW
  obtain ⟨p, q, hA0, hV, rfl, hfz, hnd⟩ := hW
  have hA : DataW.TrodAll enc Try.prog W 0 (fun _ => true) true Try.f5.params.toList args.toList ds p := hA0
  rw [Try.params5] at hA hval
  obtain ⟨v0, vs0, d0, ds0, p0, q0, hargs, rfl, rfl, h0, r0⟩ := trodAll_cons hA
  obtain ⟨v1, vs1, d1, ds1, p1, q1, rfl, rfl, rfl, h1, r1⟩ := trodAll_cons r0
  obtain ⟨v2, vs2, d2, ds2, p2, q2, rfl, rfl, rfl, h2, r2⟩ := trodAll_cons r1
  obtain ⟨rfl, rfl, rfl⟩ := trodAll_nil r2
  obtain rfl : args = #[v0, v1, v2] := by cases args; simp_all
  obtain ⟨rfl, rfl⟩ := trodVars_none hV
  obtain ⟨a0, rfl, rfl, rfl, w0⟩ := open_int Try.underlying3 (hval 0 3 v0 rfl rfl) h0
  obtain ⟨a1, len1, cap1, rfl⟩ := okWide_slice Try.underlying22 (hval 1 22 v1 rfl rfl)
  have k1 := h1
  have lt1 : ∀ x ∈ p1, x.block < W.heap.size := by obtain ⟨m, hm⟩ := k1; exact DataW.trod_lt m _ _ _ hm
  obtain ⟨z1, w1⟩ := Op.open_flats (f := 9) (ks := [.u64, .u64]) Try.underlying22 (by kernel_rfl) (by kernel_rfl) (by decide) h1
  have k2 := h2
  have lt2 : ∀ x ∈ p2, x.block < W.heap.size := by obtain ⟨m, hm⟩ := k2; exact DataW.trod_lt m _ _ _ hm
  obtain ⟨c2, rfl, fit2⟩ := Op.open_flat (f := 9) (ks := [.u64, .u64, .u64]) (by kernel_rfl) (by kernel_rfl) (hval 2 24 v2 rfl rfl) h2
  obtain ⟨a2_0, a2_1, a2_2, rfl, w2_0, w2_1, w2_2⟩ := fit2_of fit2
  clear hA0 hval0
  refine (walk a0 a1 len1 cap1 z1 a2_0 a2_1 a2_2 W w0 w1 w2_0 w2_1 w2_2).mono fun e W' ⟨he, bel⟩ => ?_
  subst he
  exact ⟨_, rfl, _, _, _, [], _, [], hW', trodAll_mk1 (shut_bool Try.underlying4 _), (trodAll_cons_mk (shut_int Try.underlying3 w0) (trodAll_cons_mk (Below.trod laidOut (by kernel_rfl) (of_decide_eq_true (by kernel_rfl)) k1 bel lt1) (trodAll_cons_mk (Below.trod laidOut (by kernel_rfl) (of_decide_eq_true (by kernel_rfl)) k2 bel lt2) trodAll_mk0))), rfl, bel.frame _, fun h => by cases h⟩

theorem over : Rows.expiryTwiceRow.holds Try.pinned (OpenSpec.ofChange Rows.expiryTwiceSpec) :=
  OpenClaim.holds_of_wide 5 Try.f5 rfl rfl rfl rfl rfl rfl rfl ⟨rfl, rfl, rfl, rfl, rfl⟩ rfl rfl rfl rfl rfl (by kernel_rfl) Try.func5 (by kernel_rfl)
    (of_decide_eq_true (by kernel_rfl)) (by unfold Func.isWrapper; first | (rw [if_pos (by decide +kernel)]; kernel_rfl) | (rw [if_neg (by decide +kernel)]; exact ⟨rfl, rfl⟩))
    (fun os started H enc _ => lifted os started H enc)

/-- The statement. -/
theorem proved : Rows.ExpiryTwiceSaid := over
#print axioms proved
end Go.Proofs.Ytafcgfhkeceiaaa.expiryTwice
