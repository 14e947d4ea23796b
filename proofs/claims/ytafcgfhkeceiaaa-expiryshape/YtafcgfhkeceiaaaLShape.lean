/-
  'skylight/skylightlaw07.ExpiryShape' returns true for every input, and the input reads afterwards as it read before. Conditions: none.
-/
import Derived.Test.YtafcgfhkeceiaaaRows
import Derived.WalkKit
import Derived.ProofKit
import Derived.OpenShut
import Derived.ShutString
import Derived.ChangeOld
import Derived.Below
import Derived.Test.YtafcgfhkeceiaaaOpen
import Derived.Test.YtafcgfhkeceiaaaXAwk
import Derived.Test.YtafcgfhkeceiaaaXShape
namespace Go.Proofs.Ytafcgfhkeceiaaa.expiryShape
open Go.Proofs Go.Proofs.Rn Go.Proofs.Lm Go.Proofs.Op Go.Proofs.Rw Go.Proofs.Lh Go.Proofs.Rf
open Go.ChangeShapes Go.WideShapes Go.ChangeAt Go.RowKit
open Go.ChangeMaps (open_string shut_string)
set_option linter.unusedVariables false

theorem own : ownKnob Try.prog.godebug = none := by kernel_rfl
theorem laidOut : laidOutB Try.prog = true := by kernel_rfl

/-- A slice of integers that came in: nil, or a row of cells of its capacity, each fitting its kind. -/
def IsRow (k : IntKind) (w : World) (a : Option Addr) (len cap : Nat) (zs : List Int) : Prop :=
  (a = none ∧ len = 0 ∧ cap = 0 ∧ zs = []) ∨
  ∃ x, a = some x ∧ len ≤ cap ∧ cap ≤ maxLen ∧ zs.length = cap ∧ (∀ i, i < zs.length → w.cell? (x.add i) = some (.int k (zs.getD i 0))) ∧ ∀ n ∈ zs, (Lit.int k n).wf = true

theorem fit2_of {c : List Value} (h : Op.Fits [.u64, .u64, .u64] c) : ∃ x0 x1 x2 : Int, c = [.int .u64 x0, .int .u64 x1, .int .u64 x2] ∧ (Lit.int .u64 x0).wf = true ∧ (Lit.int .u64 x1).wf = true ∧ (Lit.int .u64 x2).wf = true := by
  cases c with
  | nil => exact h.elim
  | cons y0 c =>
  have g0 := h.1
  replace h := h.2
  cases c with
  | nil => exact h.elim
  | cons y1 c =>
  have g1 := h.1
  replace h := h.2
  cases c with
  | nil => exact h.elim
  | cons y2 c =>
  have g2 := h.1
  replace h := h.2
  cases c with
  | cons y c => exact h.elim
  | nil =>
  obtain ⟨x0, e0, e0w⟩ := g0
  obtain ⟨x1, e1, e1w⟩ := g1
  obtain ⟨x2, e2, e2w⟩ := g2
  exact ⟨x0, x1, x2, by rw [e0, e1, e2], e0w, e1w, e2w⟩

open Go.RowKit Go.Shelf Go.Proofs.Rw Go.Proofs.Lh Go.Proofs.Rf

set_option maxRecDepth 100000 in
set_option maxHeartbeats 4000000 in
theorem walk (a0 : Int) (a1 : Option Addr) (len1 cap1 : Nat) (z1 : Nat → Nat → Int) (a2_0 a2_1 a2_2 : Int) (w : World) (w0 : (Lit.int .i64 a0).wf = true) (w1 : Op.FlatRow [.u64, .u64] w a1 len1 cap1 z1) (w2_0 : (Lit.int .u64 a2_0).wf = true) (w2_1 : (Lit.int .u64 a2_1).wf = true) (w2_2 : (Lit.int .u64 a2_2).wf = true) :
    Calls Try.prog 6 #[.int .i64 a0, .slice a1 len1 cap1, .agg #[.int .u64 a2_0, .int .u64 a2_1, .int .u64 a2_2]] w fun e w' => e = .returned (.bool true) ∧ Below w.heap.size w w' := by
  obtain ⟨ds, hdl1, hdL1, hdB1⟩ := sp_of_row w1
  have hD1 : Deeds w a1 len1 cap1 ds := ⟨hdl1, hdL1, hdB1⟩
  obtain ⟨b00, b01⟩ := bounds_i64 w0
  have hk1 := kOf_le a0
  have hdn1 : doneN ds ≤ ds.length := by unfold doneN; omega
  have hmd : Made (kOf a0) (play (kOf a0) ds (doneN ds)).2 := play_made hk1.1 (by omega) ds _ hdn1
  have hma := fun (W : World) (hW : Below w.heap.size w W) => rmade_any a0 b00 (by omega) ds W a1 len1 cap1 (hD1.grow hW)
  obtain ⟨kk, hkk⟩ : ∃ x, kOf a0 = x := ⟨_, rfl⟩
  rw [hkk] at hmd
  simp only [hkk] at hma
  obtain ⟨L, hL⟩ : ∃ x, (play kk ds (doneN ds)).2 = x := ⟨_, rfl⟩
  rw [hL] at hmd
  simp only [hL] at hma
  obtain ⟨N, hN⟩ : ∃ x, L.length = x := ⟨_, rfl⟩
  simp only [hN] at hma
  have hln : N ≤ 53 := by have := hmd.len; omega
  have HMA := Lib.hid hma
  have HN := Lib.hid hN
  have HMD := Lib.hid hmd
  clear hma hmd hN hD1 hdl1 hdL1 hdB1 hkk hL w1 hdn1 hk1 w0
  obtain ⟨c00, c01⟩ := bounds_u64 w2_0
  obtain ⟨n0, rfl⟩ : ∃ n : Nat, a2_0 = (n : Int) := ⟨a2_0.toNat, by omega⟩
  have hb0 : n0 < 18446744073709551616 := by omega
  clear c00 c01 w2_0
  obtain ⟨c10, c11⟩ := bounds_u64 w2_1
  obtain ⟨n1, rfl⟩ : ∃ n : Nat, a2_1 = (n : Int) := ⟨a2_1.toNat, by omega⟩
  have hb1 : n1 < 18446744073709551616 := by omega
  clear c10 c11 w2_1
  obtain ⟨c20, c21⟩ := bounds_u64 w2_2
  obtain ⟨n2, rfl⟩ : ∃ n : Nat, a2_2 = (n : Int) := ⟨a2_2.toNat, by omega⟩
  have hb2 : n2 < 18446744073709551616 := by omega
  clear c20 c21 w2_2
  have hbx : (w.alloc (.cells #[.int .u64 (n0 : Int), .int .u64 (n1 : Int), .int .u64 (n2 : Int)] 24)).heap[w.heap.size]? = some (.cells #[.int .u64 (n0 : Int), .int .u64 (n1 : Int), .int .u64 (n2 : Int)] 24) := heap_alloc_new w _
  have HBX := Lib.hid hbx
  clear hbx
  go_enter Try.func6, Try.ntmps6
  go_upto_region 3 with (first
    | (go_at_call 8; refine (awake_any _).mono ?_; rintro e wa ⟨rfl, ha⟩; have t := (ha.block w.heap.size (by simp)).trans HBX.out; have HX := Lib.hid t; have HLX := Lib.hid (lt_of t); have HWA := Lib.hid (((Below.refl _ w).alloc (Nat.le_refl _) _).trans (ha.mono (by simp))); clear ha t)
    | (go_at_call 9; refine (HMA.out wa HWA.out).mono ?_; rintro e wc ⟨A, c, rfl, hL, hb⟩; have HL1 := Lib.hid hL; have HB1 := Lib.hid hb; clear hL hb))
  have HL2 := HL1
  have HB2 := HB1
  obtain ⟨W4, hW4⟩ : ∃ W, wc.alloc (.cells #[.int .i64 (kk : Int), .int .i64 0, .slice A N c] 28) = W := ⟨_, rfl⟩
  have hB4 : Below wc.heap.size wc W4 := by rw [← hW4]; exact (Below.refl _ wc).alloc (Nat.le_refl _) _
  have pH : W4.heap[wc.heap.size]? = some (.cells #[.int .i64 (kk : Int), .int .i64 0, .slice A N c] 28) := by rw [← hW4]; exact heap_alloc_new wc _
  have pX := (hB4.block _ (Nat.lt_of_lt_of_le HLX.out HB2.out.size)).trans ((HB2.out.block _ HLX.out).trans HX.out)
  rw [hW4]
  obtain ⟨bX, hbX⟩ : ∃ b, w.heap.size = b := ⟨_, rfl⟩
  obtain ⟨bH, hbH⟩ : ∃ b, wc.heap.size = b := ⟨_, rfl⟩
  rw [hbX] at pX ⊢
  rw [hbH] at pH ⊢
  have HL4 := Lib.hid (HL2.out.grow hB4)
  have HB4 := Lib.hid (thn (thn HWA.out HB2.out) hB4)
  have PH := Lib.hid pH
  have PX := Lib.hid pX
  have LH := Lib.hid (lt_of pH)
  have LX := Lib.hid (lt_of pX)
  obtain ⟨y0, y1, y2⟩ := box3 pH
  have Y0 := Lib.hid y0
  have Y1 := Lib.hid y1
  have Y2 := Lib.hid y2
  have x0 : W4.cell? ⟨bX, 0, none⟩ = some (.int .u64 (n0 : Int)) := by simp [World.cell?, pX]
  have X0 := Lib.hid x0
  have x1 : W4.cell? ⟨bX, 1, none⟩ = some (.int .u64 (n1 : Int)) := by simp [World.cell?, pX]
  have X1 := Lib.hid x1
  have x2 : W4.cell? ⟨bX, 2, none⟩ = some (.int .u64 (n2 : Int)) := by simp [World.cell?, pX]
  have X2 := Lib.hid x2
  clear x0 x1 x2 y0 y1 y2 pH pX hW4 hB4 hbX hbH HL1 HL2 HB1 HB2 HWA HX HLX HMA HBX
  obtain ⟨D, hD⟩ : ∃ x, dropL n0 n1 L = x := ⟨_, rfl⟩
  have hmdD := HMD.out.drop n0 n1
  rw [hD] at hmdD
  have hla := rlast_any (kk : Int) 0 L W4 A c (by rw [HN.out]; exact HL4.out) (by have := HMD.out.lev 0; omega)
  unfold lastV at hla
  rw [HN.out] at hla
  obtain ⟨lv, hlv⟩ : ∃ x, (lastOf L).getD 0 = x := ⟨_, rfl⟩
  obtain ⟨lb, hlb⟩ : ∃ x, (lastOf L).isSome = x := ⟨_, rfl⟩
  rw [hlv, hlb] at hla
  have HLA := Lib.hid hla
  have HMDD := Lib.hid hmdD
  have HD0' : ∀ W : World, Grows W4 W → Calls Try.prog 11 #[.agg #[.int .i64 (kk : Int), .int .i64 0, .slice A N c], .int .u64 (n0 : Int), .int .u64 (n1 : Int)] W fun e w' => ∃ A' c', e = .returned (.agg #[.int .i64 (kk : Int), .int .i64 0, .slice A' D.length c']) ∧ Levs w' w'.heap.size (.slice A' D.length c') D ∧ Below W.heap.size W w' := by
    intro W hW
    have := drop_any kk 0 L HMD.out n0 n1 hb0 W A c (by rw [HN.out]; exact HL4.out.grow hW)
    rw [hD, HN.out] at this
    exact this
  have HD0 := Lib.hid HD0'
  clear HD0'
  clear hla hlv hlb hmdD hD
  obtain ⟨y0, y1, y2⟩ := box3 PH.out
  have lH := LH.out
  go_upto_region 4 with (go_at_call 18; refine HLA.out.mono ?_; rintro e w5 ⟨rfl, hb5⟩; have HB5 := Lib.hid hb5; clear hb5)
  clear y0 y1 y2 lH
  have tH := (HB5.out.block bH LH.out).trans PH.out
  have tX := (HB5.out.block bX LX.out).trans PX.out
  clear PH PX LH LX Y0 Y1 Y2 X0 X1 X2
  have PH := Lib.hid tH
  have PX := Lib.hid tX
  have LH := Lib.hid (lt_of tH)
  have LX := Lib.hid (lt_of tX)
  obtain ⟨y0, y1, y2⟩ := box3 tH
  have Y0 := Lib.hid y0
  have Y1 := Lib.hid y1
  have Y2 := Lib.hid y2
  have x0 : w5.cell? ⟨bX, 0, none⟩ = some (.int .u64 (n0 : Int)) := by simp [World.cell?, tX]
  have X0 := Lib.hid x0
  have x1 : w5.cell? ⟨bX, 1, none⟩ = some (.int .u64 (n1 : Int)) := by simp [World.cell?, tX]
  have X1 := Lib.hid x1
  have x2 : w5.cell? ⟨bX, 2, none⟩ = some (.int .u64 (n2 : Int)) := by simp [World.cell?, tX]
  have X2 := Lib.hid x2
  have HD := Lib.hid (fun (W : World) (hW : Below w5.heap.size w5 W) => HD0.out W (thn HB5.out hW))
  have HB45 := Lib.hid (thn HB4.out HB5.out)
  clear x0 x1 x2 y0 y1 y2 tH tX HD0 HB5 HLA HL4 HMD HN
  refine region_all (fr := ?frA) (fun i us W => match i with
      | 0 => us 0 = .agg #[.int .i64 (kk : Int), .int .i64 0, .slice A N c]
      | 1 => us 1 = .agg #[.int .i64 (kk : Int), .int .i64 0, .slice A N c]
      | 2 => us 2 = .pointer (some ⟨bX, 0, none⟩)
      | 3 => us 3 = .int .u64 (n0 : Int)
      | 4 => us 4 = .pointer (some ⟨bX, 1, none⟩)
      | 5 => us 5 = .int .u64 (n1 : Int)
      | 6 => Hp (kk : Int) D (us 6) W
      | 7 => Nw3 31 w5.heap.size (us 7) W
      | 8 => Yb3 31 w5.heap.size (kk : Int) D (us 7) W
      | _ => True) (fun j W W' => Ea 31 w5.heap.size 8 j W W') (fun W => Below w5.heap.size w5 W) rfl ?hBA ?hfrA ?hlocA ?hstA ?hG0A ?hGA ?hopA ?hendA
  case hBA => kernel_rfl
  case hfrA =>
    intro us
    simp only [List.length_cons, List.length_nil, Nat.zero_add, Nat.reduceAdd, putO, dstO]
    go_simp
    rfl
  case hlocA =>
    intro i us us' W h hf
    match i with
    | 0 =>
      have e0 := h 0 (.inl rfl)
      try dsimp only at hf ⊢
      rw [e0] at hf
      exact hf
    | 1 =>
      have e1 := h 1 (.inl rfl)
      try dsimp only at hf ⊢
      rw [e1] at hf
      exact hf
    | 2 =>
      have e2 := h 2 (.inl rfl)
      try dsimp only at hf ⊢
      rw [e2] at hf
      exact hf
    | 3 =>
      have e3 := h 3 (.inl rfl)
      try dsimp only at hf ⊢
      rw [e3] at hf
      exact hf
    | 4 =>
      have e4 := h 4 (.inl rfl)
      try dsimp only at hf ⊢
      rw [e4] at hf
      exact hf
    | 5 =>
      have e5 := h 5 (.inl rfl)
      try dsimp only at hf ⊢
      rw [e5] at hf
      exact hf
    | 6 =>
      have e6 := h 6 (.inl rfl)
      try dsimp only at hf ⊢
      rw [e6] at hf
      exact hf
    | 7 =>
      have e7 := h 7 (.inl rfl)
      try dsimp only at hf ⊢
      rw [e7] at hf
      exact hf
    | 8 =>
      have e7 := h 7 (.inr (by kernel_rfl))
      try dsimp only at hf ⊢
      rw [e7] at hf
      exact hf
    | n + 9 => trivial
  case hstA =>
    intro i j us W W' hne hw hi hj hE hf
    match i with
    | 0 => exact hf
    | 1 => exact hf
    | 2 => exact hf
    | 3 => exact hf
    | 4 => exact hf
    | 5 => exact hf
    | 6 =>
      exact Hp.ea (by decide) (by decide) hE hf
    | 7 =>
      exact Nw3.ea hE hf
    | 8 =>
      exact Yb3.ea hE (Ne.symm hne) hf
    | n + 9 => trivial
  case hG0A =>
    exact (Below.refl _ w5).drew
  case hGA =>
    intro j W W' hE hg
    exact Ea.below hE hg hg.size
  case hopA =>
    intro i hi us W hg hd hq
    match i, hi with
    | 0, _ =>
      clear hd hq
      have q0 := (hg.cell (p := ⟨bH, 0, none⟩) LH.out).trans Y0.out
      have q1 := (hg.cell (p := ⟨bH, 1, none⟩) LH.out).trans Y1.out
      have q2 := (hg.cell (p := ⟨bH, 2, none⟩) LH.out).trans Y2.out
      have ql := Nat.lt_of_lt_of_le LH.out hg.size
      refine all_value rfl rfl (.agg #[.int .i64 (kk : Int), .int .i64 0, .slice A N c]) W (by go_simp) ?_ ?_
      · exact .inl (Grows.refl _)
      · rfl
    | 1, _ =>
      have h0 : us 0 = .agg #[.int .i64 (kk : Int), .int .i64 0, .slice A N c] := hd 0 (by kernel_rfl)
      clear hd hq
      refine all_call rfl rfl 12 #[.agg #[.int .i64 (kk : Int), .int .i64 0, .slice A N c]] (by go_simp) ?_
      exact (lmade_any _ _ _ _ _ W).mono fun _ W' ⟨he, hb⟩ => ⟨_, he, .inl hb, rfl⟩
    | 2, _ =>
      clear hd hq
      refine all_value rfl rfl (.pointer (some ⟨bX, 0, none⟩)) W (by go_simp) ?_ ?_
      · exact .inl (Grows.refl _)
      · rfl
    | 3, _ =>
      have h2 : us 2 = .pointer (some ⟨bX, 0, none⟩) := hd 2 (by kernel_rfl)
      clear hd hq
      have qa := (hg.cell (p := ⟨bX, 0, none⟩) LX.out).trans X0.out
      have ql := Nat.lt_of_lt_of_le LX.out hg.size
      refine all_value rfl rfl (.int .u64 (n0 : Int)) W (by go_simp) ?_ ?_
      · exact .inl (Grows.refl _)
      · rfl
    | 4, _ =>
      clear hd hq
      refine all_value rfl rfl (.pointer (some ⟨bX, 1, none⟩)) W (by go_simp) ?_ ?_
      · exact .inl (Grows.refl _)
      · rfl
    | 5, _ =>
      have h4 : us 4 = .pointer (some ⟨bX, 1, none⟩) := hd 4 (by kernel_rfl)
      clear hd hq
      have qa := (hg.cell (p := ⟨bX, 1, none⟩) LX.out).trans X1.out
      have ql := Nat.lt_of_lt_of_le LX.out hg.size
      refine all_value rfl rfl (.int .u64 (n1 : Int)) W (by go_simp) ?_ ?_
      · exact .inl (Grows.refl _)
      · rfl
    | 6, _ =>
      have h1 : us 1 = .agg #[.int .i64 (kk : Int), .int .i64 0, .slice A N c] := hd 1 (by kernel_rfl)
      have h3 : us 3 = .int .u64 (n0 : Int) := hd 3 (by kernel_rfl)
      have h5 : us 5 = .int .u64 (n1 : Int) := hd 5 (by kernel_rfl)
      clear hd hq
      refine all_call rfl rfl 11 #[.agg #[.int .i64 (kk : Int), .int .i64 0, .slice A N c], .int .u64 (n0 : Int), .int .u64 (n1 : Int)] (by go_simp) ?_
      exact (HD.out W hg).mono fun _ W' ⟨A', c', he, hL, hb⟩ => ⟨_, he, .inl hb, ⟨A', c', rfl, hL⟩⟩
    | 7, _ =>
      clear hd hq
      refine all_value rfl rfl (.pointer (some ⟨W.heap.size, 0, none⟩)) (W.alloc (.cells #[.int .i64 0, .int .i64 0, .slice none 0 0] 31)) (by go_simp) ?_ ?_
      · exact .inl (Grows.alloc _ _)
      · exact ⟨W.heap.size, _, _, _, rfl, hg.size, World.alloc_heap_new _ _⟩
    | 8, _ =>
      have h7 : Nw3 31 w5.heap.size (us 7) W := hd 7 (by kernel_rfl)
      have h6 : Hp (kk : Int) D (us 6) W := hd 6 (by kernel_rfl)
      clear hd hq
      obtain ⟨A', c', e9, hL⟩ := h6
      obtain ⟨p, x0, x1, x2, e11, hp, hblk⟩ := h7
      obtain ⟨q0, q1, q2⟩ := box3 hblk
      have f0 : ∀ i, W.frozen? ⟨p, i, none⟩ = false := fun i => by simp [World.frozen?, hblk]
      have HBK := Lib.hid hblk
      have hlp := lt_of hblk
      clear hblk
      refine all_skip rfl rfl (((W.setCell ⟨p, 0, none⟩ (.int .i64 (kk : Int))).setCell ⟨p, 1, none⟩ (.int .i64 0)).setCell ⟨p, 2, none⟩ (.slice A' D.length c')) (by go_simp) ?_ ?_
      · exact .inr ⟨rfl, st3_set hp HBK.out _ _ _⟩
      · exact ⟨p, A', c', e11, hp, set3 HBK.out _ _ _, levs_set3 (by decide) (by decide) HBK.out _ _ _ hL⟩
    | n + 9, h => exact absurd h (by simp)
  case hendA =>
    intro us W hg hf
    have h8 : Yb3 31 w5.heap.size (kk : Int) D (us 7) W := hf 8 (by simp)
    clear hf
    obtain ⟨p, Ap, cp, e11, hp, hblk, hLp⟩ := h8
    rw [e11]
    have hadd := add_any kk D HMDD.out lv n2 hb2 W Ap cp hLp
    obtain ⟨M, hM⟩ : ∃ x, D.length = x := ⟨_, rfl⟩
    obtain ⟨C, hC⟩ : ∃ x, code D lv n2 = x := ⟨_, rfl⟩
    obtain ⟨R1, hR1⟩ : ∃ x, outL kk D lv n2 = x := ⟨_, rfl⟩
    obtain ⟨K1, hK1⟩ : ∃ x, outK kk D lv n2 = x := ⟨_, rfl⟩
    have hok : C = 0 → K1 = (kk : Int) ∧ Made kk R1 := by
      intro e
      rw [e] at hC
      refine ⟨?_, ?_⟩
      · rw [← hK1]; unfold outK; rw [if_pos hC]
      · rw [← hR1]; unfold outL; rw [if_pos hC]; exact HMDD.out.add hC
    rw [hC, hR1, hK1, hM] at hadd
    rw [hM] at hblk hLp
    obtain ⟨M1, hM1⟩ : ∃ x, R1.length = x := ⟨_, rfl⟩
    rw [hM1] at hadd
    have tX := (hg.block bX LX.out).trans PX.out
    obtain ⟨y0, y1, y2⟩ := box3 hblk
    have v2 : W.cell? ⟨bX, 2, none⟩ = some (.int .u64 (n2 : Int)) := by simp [World.cell?, tX]
    have lp := lt_of hblk
    have lX := lt_of tX
    have HADD := Lib.hid hadd
    have HOK := Lib.hid hok
    have HBLK := Lib.hid hblk
    have HLP := Lib.hid hLp
    have HGG := Lib.hid (thn HB45.out hg)
    have HM := Lib.hid hM
    have HM1 := Lib.hid hM1
    clear hadd hok hblk hLp hg hM hM1 hC hR1 hK1 tX e11
    go_upto_region 6 with (go_at_call 19; refine HADD.out.mono ?_; rintro e w6 ⟨A6, c6, rfl, hL6, hb6⟩; have HL6 := Lib.hid hL6; have HB6 := Lib.hid hb6; clear hL6 hb6)
    obtain ⟨W6, hW6⟩ : ∃ W, w6.alloc (.cells #[.int .i64 K1, .int .i64 0, .slice A6 M1 c6] 31) = W := ⟨_, rfl⟩
    have p6 : W6.heap[w6.heap.size]? = some (.cells #[.int .i64 K1, .int .i64 0, .slice A6 M1 c6] 31) := by rw [← hW6]; exact heap_alloc_new w6 _
    have hB6 : Below w6.heap.size w6 W6 := by rw [← hW6]; exact (Below.refl _ w6).alloc (Nat.le_refl _) _
    rw [hW6]
    have p5 := (hB6.block _ (Nat.lt_of_lt_of_le lp HB6.out.size)).trans ((HB6.out.block _ lp).trans HBLK.out)
    have hpw : w.heap.size ≤ p := by have := HB45.out.size; omega
    have hL5 := (HLP.out.grow HB6.out).grow hB6
    have hL7 := HL6.out.grow hB6
    have hbw := thn (thn HGG.out HB6.out) hB6
    obtain ⟨b6, hb6⟩ : ∃ b, w6.heap.size = b := ⟨_, rfl⟩
    have hne : p ≠ b6 := by have := HB6.out.size; omega
    rw [hb6] at p6 ⊢
    clear y0 y1 y2 v2 lp lX hW6 hB6 hb6
    obtain ⟨y0, y1, y2⟩ := box3 p5
    obtain ⟨z0, z1, z2⟩ := box3 p6
    have f5 : ∀ i, W6.frozen? ⟨p, i, none⟩ = false := fun i => by simp [World.frozen?, p5]
    have l5 := lt_of p5
    have l6 := lt_of p6
    have P5 := Lib.hid p5
    have HL5 := Lib.hid hL5
    have HL7 := Lib.hid hL7
    have HBW := Lib.hid hbw
    clear p5 p6 hL5 hL7 hbw
    go_upto_if 42 with (fail)
    go_cut [43] from 41 to 43 (fun _ wx => ∃ (R : Lv) (NR : Nat) (A' : Option Addr) (c' : Nat), Made kk R ∧ R.length = NR ∧ wx.heap[p]? = some (.cells #[.int .i64 (kk : Int), .int .i64 0, .slice A' NR c'] 31) ∧ Levs wx wx.heap.size (.slice A' NR c') R ∧ Below w.heap.size w wx)
    case first =>
      by_cases hc : C = 0
      · obtain ⟨hk1, hmd1⟩ := HOK.out hc
        subst hk1
        have d : (C == 0) = true := by simpa using hc
        have HMD1 := Lib.hid hmd1
        clear hc hmd1
        go_wp2
        go_meet
        case rel => exact ⟨R1, M1, A6, c6, HMD1.out, HM1.out, set3 P5.out _ _ _, levs_set3 (by decide) (by decide) P5.out _ _ _ HL7.out, below3 HBW.out hpw _ _ _⟩
      · have d : (C == 0) = false := by simpa using hc
        clear hc
        go_wp2
        go_meet
        case rel => exact ⟨D, M, Ap, cp, HMDD.out, HM.out, P5.out, HL5.out, HBW.out⟩
    case rest =>
      obtain ⟨R, NR, AR, cR, hmR, hNR, pR, hLR, hbR⟩ := hcut
      rename World => W7
      clear y0 y1 y2 z0 z1 z2 f5 l5 l6
      obtain ⟨y0, y1, y2⟩ := box3 pR
      have lR := lt_of pR
      have hto := total_any (kk : Int) 0 R (by have := hmR.len; omega) (by have := hmR.small; omega) W7 AR cR (by rw [hNR]; exact hLR)
      have htl : tot R ≤ 4503599627370496 := hmR.small
      have hn53 : NR ≤ 53 := by have := hmR.len; omega
      obtain ⟨T, hT⟩ : ∃ x, tot R = x := ⟨_, rfl⟩
      rw [hT, hNR] at hto
      rw [hT] at htl
      have hk2 := hmR.k2
      have hk31 := hmR.k1
      have HMR := Lib.hid hmR
      have HNR := Lib.hid hNR
      have HTO := Lib.hid hto
      have HLR := Lib.hid hLR
      have HBR := Lib.hid hbR
      have PR := Lib.hid pR
      clear hmR hNR hto hLR hbR pR hT HMDD HD
      go_wp2
      go_loopw [14] (fun s14 wr => ∃ i : Nat, s14 = .int .i64 (i : Int) ∧ i ≤ NR ∧ W7 = wr) (fun s14 _ => NR - (intOf s14).toNat)
      case atStart => exact ⟨0, rfl, Nat.zero_le _, rfl⟩
      case round =>
        obtain ⟨i, rfl, hi, rfl⟩ := hrel
        by_cases hlt : i < NR
        · have hiL : i < R.length := by rw [HNR.out]; exact hlt
          obtain ⟨b, off, rfl, hb, -, hc⟩ := HLR.out.at (by omega)
          obtain ⟨Ai, ci, u0, -, -, -⟩ := hc i hiL
          rw [← lev_lt hiL] at u0
          obtain ⟨hs1, hs2, hs3⟩ := shape_at (by omega) i HMR.out.ok.shape hiL
          rw [Nat.zero_add] at hs2 hs3
          have hln := HMR.out.lev i
          obtain ⟨n, hn⟩ : ∃ n, (lev R i).length = n := ⟨_, rfl⟩
          rw [hn] at u0 hs1 hs2 hs3 hln
          have hMo := fun W => rMost_any (kk : Int) (i : Int) (by omega) W
          have hLe := fun W => rLeast_any (kk : Int) (i : Int) (by omega) W
          have hrm : leastI (kk : Int) (i : Int) + 1 = (rm kk i : Int) := by
            unfold leastI rm
            by_cases h : i = 0
            · subst h; simp
              try omega
            · rw [if_neg (by omega), if_neg h]; omega
          obtain ⟨ML, hML⟩ : ∃ M, leastI (kk : Int) (i : Int) = M := ⟨_, rfl⟩
          simp only [hML] at hMo hLe
          rw [hML] at hrm
          have g1 : ¬ ((n : Int) < 1) := by omega
          have g2 : decide (ML + 1 < (n : Int)) = false := by simp; omega
          have hs3' : (i : Int) ≠ (NR : Int) - 1 → decide ((n : Int) < ML) = false := fun h => by
            have := hs3 (by rw [HNR.out]; omega)
            simp
            omega
          have HMO := Lib.hid hMo
          have HLE := Lib.hid hLe
          have HS3 := Lib.hid hs3'
          have hiN : (i : Int) < (NR : Int) := by omega
          have hbs : b < W7.heap.size := hb
          have bN1 : -9223372036854775808 ≤ (NR : Int) - 1 := by omega
          clear hMo hLe hs3' hn hc hs1 hs2 hs3 hML hrm hiL
          go_upto_region 13 with (fail)
          generalize htp : ((i : Int) == (NR : Int) - 1) = tp
          have hs4 : tp = false → decide ((n : Int) < ML) = false := fun e => HS3.out (by rw [e] at htp; rw [beq_eq_false_iff_ne] at htp; exact htp)
          have HS4 := Lib.hid hs4
          clear hs4 htp
          go_cut [84] from 63 to 84 (fun s84 wx => s84 = .bool false ∧ W7 = wx)
          case first =>
            cases tp
            case true =>
              go_wp2_with (go_at_call 20; (with_reducible refine (HMO.out _).mono ?_); rintro e wn ⟨rfl, rfl⟩)
              go_meet
              case rel => exact ⟨rfl, rfl⟩
            case false =>
              have d3 := HS4.out rfl
              go_wp2_with (first
                | (go_at_call 20; (with_reducible refine (HMO.out _).mono ?_); rintro e wn ⟨rfl, rfl⟩)
                | (go_at_call 21; (with_reducible refine (HLE.out _).mono ?_); rintro e wn ⟨rfl, rfl⟩))
              go_meet
              case rel => exact ⟨by first | rfl | exact congrArg Value.bool d3, rfl⟩
          case rest =>
            obtain ⟨rfl, rfl⟩ := hcut
            clear g1 g2 HS3 HS4 HMO HLE
            go_wp2
            exact ⟨⟨i + 1, by go_num, hlt, by first | rfl | trivial⟩, by simp [intOf]; omega⟩
        · have d5 : decide ((T : Int) ≤ 4503599627370496) = true := by simp; omega
          go_wp2_with (go_at_call 22; refine HTO.out.mono ?_; rintro e w9 ⟨rfl, hb9⟩; have HB9 := Lib.hid hb9; clear hb9)
          go_ret
          exact ⟨rfl, thn HBR.out HB9.out⟩

set_option maxRecDepth 100000 in
theorem lifted (os : Os) (started : os.Started) (H : Type) (enc : TypeId × Value → H) :
    ReturnsInHanded {} Try.checked os 6 .any (Rows.expiryShapeSpec.pre6 enc Try.prog Try.f6 Rows.expiryShapeRow.domain false) (Rows.expiryShapeSpec.post enc Try.prog Try.f6 false true false false) := by
  refine returnsInHanded_of_change (C := Try.checked) own started (by kernel_rfl) Try.func6
    (ChangeSpec.witness6 (enc := enc) (C := Try.checked) false ⟨#[], #[.int .i64 0, .slice none 0 0, .agg #[.int .u64 0, .int .u64 0, .int .u64 0]], []⟩ 8 (by kernel_rfl) (by kernel_rfl) (by kernel_rfl) (by kernel_rfl)) ?_
  intro W base args ds gs before hval0 hW hcnd _
  have hval : ∀ (j : Nat) t v, Try.f6.params[j]? = some t → args[j]? = some v → Value.okWide Try.prog W .any base t v := hval0
  have hW' := hW
  obtain ⟨p, q, hA0, hV, rfl, hfz, hnd⟩ := hW
  have hA : DataW.TrodAll enc Try.prog W 0 (fun _ => true) true Try.f6.params.toList args.toList ds p := hA0
  rw [Try.params6] at hA hval
  obtain ⟨v0, vs0, d0, ds0, p0, q0, hargs, rfl, rfl, h0, r0⟩ := trodAll_cons hA
  obtain ⟨v1, vs1, d1, ds1, p1, q1, rfl, rfl, rfl, h1, r1⟩ := trodAll_cons r0
  obtain ⟨v2, vs2, d2, ds2, p2, q2, rfl, rfl, rfl, h2, r2⟩ := trodAll_cons r1
  obtain ⟨rfl, rfl, rfl⟩ := trodAll_nil r2
  obtain rfl : args = #[v0, v1, v2] := by cases args; simp_all
  obtain ⟨rfl, rfl⟩ := trodVars_none hV
  obtain ⟨a0, rfl, rfl, rfl, w0⟩ := open_int Try.underlying3 (hval 0 3 v0 rfl rfl) h0
  obtain ⟨a1, len1, cap1, rfl⟩ := okWide_slice Try.underlying22 (hval 1 22 v1 rfl rfl)
  have k1 := h1
  have lt1 : ∀ x ∈ p1, x.block < W.heap.size := by obtain ⟨m, hm⟩ := k1; exact DataW.trod_lt m _ _ _ hm
  obtain ⟨z1, w1⟩ := Op.open_flats (f := 9) (ks := [.u64, .u64]) Try.underlying22 (by kernel_rfl) (by kernel_rfl) (by decide) h1
  have k2 := h2
  have lt2 : ∀ x ∈ p2, x.block < W.heap.size := by obtain ⟨m, hm⟩ := k2; exact DataW.trod_lt m _ _ _ hm
  obtain ⟨c2, rfl, fit2⟩ := Op.open_flat (f := 9) (ks := [.u64, .u64, .u64]) (by kernel_rfl) (by kernel_rfl) (hval 2 24 v2 rfl rfl) h2
  obtain ⟨a2_0, a2_1, a2_2, rfl, w2_0, w2_1, w2_2⟩ := fit2_of fit2
  clear hA0 hval0
  refine (walk a0 a1 len1 cap1 z1 a2_0 a2_1 a2_2 W w0 w1 w2_0 w2_1 w2_2).mono fun e W' ⟨he, bel⟩ => ?_
  subst he
  exact ⟨_, rfl, _, _, _, [], _, [], hW', trodAll_mk1 (shut_bool Try.underlying4 _), (trodAll_cons_mk (shut_int Try.underlying3 w0) (trodAll_cons_mk (Below.trod laidOut (by kernel_rfl) (of_decide_eq_true (by kernel_rfl)) k1 bel lt1) (trodAll_cons_mk (Below.trod laidOut (by kernel_rfl) (of_decide_eq_true (by kernel_rfl)) k2 bel lt2) trodAll_mk0))), rfl, bel.frame _, fun h => by cases h⟩

theorem over : Rows.expiryShapeRow.holds Try.pinned (OpenSpec.ofChange Rows.expiryShapeSpec) :=
  OpenClaim.holds_of_wide 6 Try.f6 rfl rfl rfl rfl rfl rfl rfl ⟨rfl, rfl, rfl, rfl, rfl⟩ rfl rfl rfl rfl rfl (by kernel_rfl) Try.func6 (by kernel_rfl)
    (of_decide_eq_true (by kernel_rfl)) (by unfold Func.isWrapper; first | (rw [if_pos (by decide +kernel)]; kernel_rfl) | (rw [if_neg (by decide +kernel)]; exact ⟨rfl, rfl⟩))
    (fun os started H enc _ => lifted os started H enc)

/-- The statement. -/
theorem proved : Rows.ExpiryShapeSaid := over
#print axioms proved
end Go.Proofs.Ytafcgfhkeceiaaa.expiryShape
