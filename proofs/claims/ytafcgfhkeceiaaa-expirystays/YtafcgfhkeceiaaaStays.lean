/-
  'skylight/skylightlaw07.ExpiryStays' returns true for every input, and the input reads afterwards as it read before. Conditions: none.
-/
import Derived.Test.YtafcgfhkeceiaaaRows
import Derived.WalkKit
import Derived.ProofKit
import Derived.OpenShut
import Derived.ShutString
import Derived.ChangeOld
import Derived.Below
import Derived.Test.YtafcgfhkeceiaaaOpen
import Derived.Test.YtafcgfhkeceiaaaXAwk
import Derived.Test.YtafcgfhkeceiaaaXShape
namespace Go.Proofs.Ytafcgfhkeceiaaa.expiryStays
open Go.Proofs Go.Proofs.Rn Go.Proofs.Lm Go.Proofs.Op Go.Proofs.Rw Go.Proofs.Lh Go.Proofs.Rf
open Go.ChangeShapes Go.WideShapes Go.ChangeAt Go.RowKit
open Go.ChangeMaps (open_string shut_string)
set_option linter.unusedVariables false

theorem own : ownKnob Try.prog.godebug = none := by kernel_rfl
theorem laidOut : laidOutB Try.prog = true := by kernel_rfl

/-- A slice of integers that came in: nil, or a row of cells of its capacity, each fitting its kind. -/
def IsRow (k : IntKind) (w : World) (a : Option Addr) (len cap : Nat) (zs : List Int) : Prop :=
  (a = none ∧ len = 0 ∧ cap = 0 ∧ zs = []) ∨
  ∃ x, a = some x ∧ len ≤ cap ∧ cap ≤ maxLen ∧ zs.length = cap ∧ (∀ i, i < zs.length → w.cell? (x.add i) = some (.int k (zs.getD i 0))) ∧ ∀ n ∈ zs, (Lit.int k n).wf = true

theorem fit2_of {c : List Value} (h : Op.Fits [.u64, .u64] c) : ∃ x0 x1 : Int, c = [.int .u64 x0, .int .u64 x1] ∧ (Lit.int .u64 x0).wf = true ∧ (Lit.int .u64 x1).wf = true := by
  cases c with
  | nil => exact h.elim
  | cons y0 c =>
  have g0 := h.1
  replace h := h.2
  cases c with
  | nil => exact h.elim
  | cons y1 c =>
  have g1 := h.1
  replace h := h.2
  cases c with
  | cons y c => exact h.elim
  | nil =>
  obtain ⟨x0, e0, e0w⟩ := g0
  obtain ⟨x1, e1, e1w⟩ := g1
  exact ⟨x0, x1, by rw [e0, e1], e0w, e1w⟩

open Go.RowKit Go.Shelf Go.Proofs.Rw Go.Proofs.Lh Go.Proofs.Rf

set_option maxRecDepth 100000 in
set_option maxHeartbeats 4000000 in
theorem walk (a0 : Int) (a1 : Option Addr) (len1 cap1 : Nat) (z1 : Nat → Nat → Int) (a2_0 a2_1 : Int) (w : World) (w0 : (Lit.int .i64 a0).wf = true) (w1 : Op.FlatRow [.u64, .u64] w a1 len1 cap1 z1) (w2_0 : (Lit.int .u64 a2_0).wf = true) (w2_1 : (Lit.int .u64 a2_1).wf = true) :
    Calls Try.prog 4 #[.int .i64 a0, .slice a1 len1 cap1, .agg #[.int .u64 a2_0, .int .u64 a2_1]] w fun e w' => e = .returned (.bool true) ∧ Below w.heap.size w w' := by
  obtain ⟨ds, hdl1, hdL1, hdB1⟩ := sp_of_row w1
  have hD1 : Deeds w a1 len1 cap1 ds := ⟨hdl1, hdL1, hdB1⟩
  obtain ⟨b00, b01⟩ := bounds_i64 w0
  have hk1 := kOf_le a0
  have hdn1 : doneN ds ≤ ds.length := by unfold doneN; omega
  have hmd : Made (kOf a0) (play (kOf a0) ds (doneN ds)).2 := play_made hk1.1 (by omega) ds _ hdn1
  have hma := fun (W : World) (hW : Below w.heap.size w W) => rmade_any a0 b00 (by omega) ds W a1 len1 cap1 (hD1.grow hW)
  obtain ⟨kk, hkk⟩ : ∃ x, kOf a0 = x := ⟨_, rfl⟩
  rw [hkk] at hmd
  simp only [hkk] at hma
  obtain ⟨L, hL⟩ : ∃ x, (play kk ds (doneN ds)).2 = x := ⟨_, rfl⟩
  rw [hL] at hmd
  simp only [hL] at hma
  obtain ⟨N, hN⟩ : ∃ x, L.length = x := ⟨_, rfl⟩
  simp only [hN] at hma
  have hln : N ≤ 53 := by have := hmd.len; omega
  have HMA := Lib.hid hma
  have HN := Lib.hid hN
  have HMD := Lib.hid hmd
  clear hma hmd hN hD1 hdl1 hdL1 hdB1 hkk hL w1 hdn1 hk1 w0
  obtain ⟨c00, c01⟩ := bounds_u64 w2_0
  obtain ⟨n0, rfl⟩ : ∃ n : Nat, a2_0 = (n : Int) := ⟨a2_0.toNat, by omega⟩
  have hb0 : n0 < 18446744073709551616 := by omega
  clear c00 c01 w2_0
  obtain ⟨c10, c11⟩ := bounds_u64 w2_1
  obtain ⟨n1, rfl⟩ : ∃ n : Nat, a2_1 = (n : Int) := ⟨a2_1.toNat, by omega⟩
  have hb1 : n1 < 18446744073709551616 := by omega
  clear c10 c11 w2_1
  have hbx : (w.alloc (.cells #[.int .u64 (n0 : Int), .int .u64 (n1 : Int)] 37)).heap[w.heap.size]? = some (.cells #[.int .u64 (n0 : Int), .int .u64 (n1 : Int)] 37) := heap_alloc_new w _
  have HBX := Lib.hid hbx
  clear hbx
  go_enter Try.func4, Try.ntmps4
  go_upto_region 3 with (first
    | (go_at_call 8; refine (awake_any _).mono ?_; rintro e wa ⟨rfl, ha⟩; have t := (ha.block w.heap.size (by simp)).trans HBX.out; have HX := Lib.hid t; have HLX := Lib.hid (lt_of t); have HWA := Lib.hid (((Below.refl _ w).alloc (Nat.le_refl _) _).trans (ha.mono (by simp))); clear ha t)
    | (go_at_call 9; refine (HMA.out wa HWA.out).mono ?_; rintro e wc ⟨A, c, rfl, hL, hb⟩; have HL1 := Lib.hid hL; have HB1 := Lib.hid hb; clear hL hb))
  have HL2 := HL1
  have HB2 := HB1
  obtain ⟨W4, hW4⟩ : ∃ W, wc.alloc (.cells #[.int .i64 (kk : Int), .int .i64 0, .slice A N c] 28) = W := ⟨_, rfl⟩
  have hB4 : Below wc.heap.size wc W4 := by rw [← hW4]; exact (Below.refl _ wc).alloc (Nat.le_refl _) _
  have pH : W4.heap[wc.heap.size]? = some (.cells #[.int .i64 (kk : Int), .int .i64 0, .slice A N c] 28) := by rw [← hW4]; exact heap_alloc_new wc _
  have pX := (hB4.block _ (Nat.lt_of_lt_of_le HLX.out HB2.out.size)).trans ((HB2.out.block _ HLX.out).trans HX.out)
  rw [hW4]
  obtain ⟨bX, hbX⟩ : ∃ b, w.heap.size = b := ⟨_, rfl⟩
  obtain ⟨bH, hbH⟩ : ∃ b, wc.heap.size = b := ⟨_, rfl⟩
  rw [hbX] at pX ⊢
  rw [hbH] at pH ⊢
  have HL4 := Lib.hid (HL2.out.grow hB4)
  have HB4 := Lib.hid (thn (thn HWA.out HB2.out) hB4)
  have PH := Lib.hid pH
  have PX := Lib.hid pX
  have LH := Lib.hid (lt_of pH)
  have LX := Lib.hid (lt_of pX)
  obtain ⟨y0, y1, y2⟩ := box3 pH
  have Y0 := Lib.hid y0
  have Y1 := Lib.hid y1
  have Y2 := Lib.hid y2
  have x0 : W4.cell? ⟨bX, 0, none⟩ = some (.int .u64 (n0 : Int)) := by simp [World.cell?, pX]
  have X0 := Lib.hid x0
  have x1 : W4.cell? ⟨bX, 1, none⟩ = some (.int .u64 (n1 : Int)) := by simp [World.cell?, pX]
  have X1 := Lib.hid x1
  clear x0 x1 y0 y1 y2 pH pX hW4 hB4 hbX hbH HL1 HL2 HB1 HB2 HWA HX HLX HMA HBX
  obtain ⟨D, hD⟩ : ∃ x, dropL n0 n1 L = x := ⟨_, rfl⟩
  have hmdD := HMD.out.drop n0 n1
  rw [hD] at hmdD
  have hdl : D.length ≤ N := by rw [← hD, ← HN.out]; exact drop_len n0 n1 L
  have hlv : ∀ i, i < N → lev D i = (lev L i).drop (olds n0 n1 (lev L i)) ∧ (lev D i).length = (lev L i).length - olds n0 n1 (lev L i) ∧ olds n0 n1 (lev L i) ≤ (lev L i).length ∧ ∀ j (hj : j < (lev L i).length), oldB (lev L i)[j].2 n0 n1 = decide (j < olds n0 n1 (lev L i)) := by
    intro i hi
    have ht := turn_lev HMD.out.ok.turn (by rw [HN.out]; exact hi : i < L.length)
    obtain ⟨h1, h2⟩ := cut_drop n0 n1 ht
    have h3 : lev D i = cutL n0 n1 (lev L i) := by rw [← hD]; exact lev_drop n0 n1 L i
    have h4 := cutL_len n0 n1 (lev L i)
    refine ⟨h3.trans h1, ?_, ?_, h2⟩
    · rw [h3]; unfold olds; omega
    · unfold olds; omega
  have hsh : ∀ i, i < N → 1 ≤ (lev L i).length := fun i hi => (shape_at (by have := HMD.out.k2; omega) i HMD.out.ok.shape (by rw [HN.out]; exact hi)).1
  have hlevL : ∀ i, (lev L i).length ≤ 1026 := HMD.out.lev
  have HD' : ∀ W : World, Grows W4 W → Calls Try.prog 11 #[.agg #[.int .i64 (kk : Int), .int .i64 0, .slice A N c], .int .u64 (n0 : Int), .int .u64 (n1 : Int)] W fun e w' => ∃ A' c', e = .returned (.agg #[.int .i64 (kk : Int), .int .i64 0, .slice A' D.length c']) ∧ Levs w' w'.heap.size (.slice A' D.length c') D ∧ Below W.heap.size W w' := by
    intro W hW
    have := drop_any kk 0 L HMD.out n0 n1 hb0 W A c (by rw [HN.out]; exact HL4.out.grow hW)
    rw [hD, HN.out] at this
    exact this
  have HD := Lib.hid HD'
  clear HD'
  have HLVD := Lib.hid hlv
  have HSHP := Lib.hid hsh
  have HLEV := Lib.hid hlevL
  clear hlv hsh hlevL hmdD hD HMD
  refine region_all (fr := ?frA) (fun i us W => match i with
      | 0 => us 0 = .agg #[.int .i64 (kk : Int), .int .i64 0, .slice A N c]
      | 1 => us 1 = .agg #[.int .i64 (kk : Int), .int .i64 0, .slice A N c]
      | 2 => us 2 = .pointer (some ⟨bX, 0, none⟩)
      | 3 => us 3 = .int .u64 (n0 : Int)
      | 4 => us 4 = .pointer (some ⟨bX, 1, none⟩)
      | 5 => us 5 = .int .u64 (n1 : Int)
      | 6 => Hp (kk : Int) D (us 6) W
      | 7 => Nw3 31 W4.heap.size (us 7) W
      | 8 => Yb3 31 W4.heap.size (kk : Int) D (us 7) W
      | _ => True) (fun j W W' => Ea 31 W4.heap.size 8 j W W') (fun W => Below W4.heap.size W4 W) rfl ?hBA ?hfrA ?hlocA ?hstA ?hG0A ?hGA ?hopA ?hendA
  case hBA => kernel_rfl
  case hfrA =>
    intro us
    simp only [List.length_cons, List.length_nil, Nat.zero_add, Nat.reduceAdd, putO, dstO]
    go_simp
    rfl
  case hlocA =>
    intro i us us' W h hf
    match i with
    | 0 =>
      have e0 := h 0 (.inl rfl)
      try dsimp only at hf ⊢
      rw [e0] at hf
      exact hf
    | 1 =>
      have e1 := h 1 (.inl rfl)
      try dsimp only at hf ⊢
      rw [e1] at hf
      exact hf
    | 2 =>
      have e2 := h 2 (.inl rfl)
      try dsimp only at hf ⊢
      rw [e2] at hf
      exact hf
    | 3 =>
      have e3 := h 3 (.inl rfl)
      try dsimp only at hf ⊢
      rw [e3] at hf
      exact hf
    | 4 =>
      have e4 := h 4 (.inl rfl)
      try dsimp only at hf ⊢
      rw [e4] at hf
      exact hf
    | 5 =>
      have e5 := h 5 (.inl rfl)
      try dsimp only at hf ⊢
      rw [e5] at hf
      exact hf
    | 6 =>
      have e6 := h 6 (.inl rfl)
      try dsimp only at hf ⊢
      rw [e6] at hf
      exact hf
    | 7 =>
      have e7 := h 7 (.inl rfl)
      try dsimp only at hf ⊢
      rw [e7] at hf
      exact hf
    | 8 =>
      have e7 := h 7 (.inr (by kernel_rfl))
      try dsimp only at hf ⊢
      rw [e7] at hf
      exact hf
    | n + 9 => trivial
  case hstA =>
    intro i j us W W' hne hw hi hj hE hf
    match i with
    | 0 => exact hf
    | 1 => exact hf
    | 2 => exact hf
    | 3 => exact hf
    | 4 => exact hf
    | 5 => exact hf
    | 6 =>
      exact Hp.ea (by decide) (by decide) hE hf
    | 7 =>
      exact Nw3.ea hE hf
    | 8 =>
      exact Yb3.ea hE (Ne.symm hne) hf
    | n + 9 => trivial
  case hG0A =>
    exact (Below.refl _ W4).drew
  case hGA =>
    intro j W W' hE hg
    exact Ea.below hE hg hg.size
  case hopA =>
    intro i hi us W hg hd hq
    match i, hi with
    | 0, _ =>
      clear hd hq
      have q0 := (hg.cell (p := ⟨bH, 0, none⟩) LH.out).trans Y0.out
      have q1 := (hg.cell (p := ⟨bH, 1, none⟩) LH.out).trans Y1.out
      have q2 := (hg.cell (p := ⟨bH, 2, none⟩) LH.out).trans Y2.out
      have ql := Nat.lt_of_lt_of_le LH.out hg.size
      refine all_value rfl rfl (.agg #[.int .i64 (kk : Int), .int .i64 0, .slice A N c]) W (by go_simp) ?_ ?_
      · exact .inl (Grows.refl _)
      · rfl
    | 1, _ =>
      have h0 : us 0 = .agg #[.int .i64 (kk : Int), .int .i64 0, .slice A N c] := hd 0 (by kernel_rfl)
      clear hd hq
      refine all_call rfl rfl 12 #[.agg #[.int .i64 (kk : Int), .int .i64 0, .slice A N c]] (by go_simp) ?_
      exact (lmade_any _ _ _ _ _ W).mono fun _ W' ⟨he, hb⟩ => ⟨_, he, .inl hb, rfl⟩
    | 2, _ =>
      clear hd hq
      refine all_value rfl rfl (.pointer (some ⟨bX, 0, none⟩)) W (by go_simp) ?_ ?_
      · exact .inl (Grows.refl _)
      · rfl
    | 3, _ =>
      have h2 : us 2 = .pointer (some ⟨bX, 0, none⟩) := hd 2 (by kernel_rfl)
      clear hd hq
      have qa := (hg.cell (p := ⟨bX, 0, none⟩) LX.out).trans X0.out
      have ql := Nat.lt_of_lt_of_le LX.out hg.size
      refine all_value rfl rfl (.int .u64 (n0 : Int)) W (by go_simp) ?_ ?_
      · exact .inl (Grows.refl _)
      · rfl
    | 4, _ =>
      clear hd hq
      refine all_value rfl rfl (.pointer (some ⟨bX, 1, none⟩)) W (by go_simp) ?_ ?_
      · exact .inl (Grows.refl _)
      · rfl
    | 5, _ =>
      have h4 : us 4 = .pointer (some ⟨bX, 1, none⟩) := hd 4 (by kernel_rfl)
      clear hd hq
      have qa := (hg.cell (p := ⟨bX, 1, none⟩) LX.out).trans X1.out
      have ql := Nat.lt_of_lt_of_le LX.out hg.size
      refine all_value rfl rfl (.int .u64 (n1 : Int)) W (by go_simp) ?_ ?_
      · exact .inl (Grows.refl _)
      · rfl
    | 6, _ =>
      have h1 : us 1 = .agg #[.int .i64 (kk : Int), .int .i64 0, .slice A N c] := hd 1 (by kernel_rfl)
      have h3 : us 3 = .int .u64 (n0 : Int) := hd 3 (by kernel_rfl)
      have h5 : us 5 = .int .u64 (n1 : Int) := hd 5 (by kernel_rfl)
      clear hd hq
      refine all_call rfl rfl 11 #[.agg #[.int .i64 (kk : Int), .int .i64 0, .slice A N c], .int .u64 (n0 : Int), .int .u64 (n1 : Int)] (by go_simp) ?_
      exact (HD.out W hg).mono fun _ W' ⟨A', c', he, hL, hb⟩ => ⟨_, he, .inl hb, ⟨A', c', rfl, hL⟩⟩
    | 7, _ =>
      clear hd hq
      refine all_value rfl rfl (.pointer (some ⟨W.heap.size, 0, none⟩)) (W.alloc (.cells #[.int .i64 0, .int .i64 0, .slice none 0 0] 31)) (by go_simp) ?_ ?_
      · exact .inl (Grows.alloc _ _)
      · exact ⟨W.heap.size, _, _, _, rfl, hg.size, World.alloc_heap_new _ _⟩
    | 8, _ =>
      have h7 : Nw3 31 W4.heap.size (us 7) W := hd 7 (by kernel_rfl)
      have h6 : Hp (kk : Int) D (us 6) W := hd 6 (by kernel_rfl)
      clear hd hq
      obtain ⟨A', c', e9, hL⟩ := h6
      obtain ⟨p, x0, x1, x2, e11, hp, hblk⟩ := h7
      obtain ⟨q0, q1, q2⟩ := box3 hblk
      have f0 : ∀ i, W.frozen? ⟨p, i, none⟩ = false := fun i => by simp [World.frozen?, hblk]
      have HBK := Lib.hid hblk
      have hlp := lt_of hblk
      clear hblk
      refine all_skip rfl rfl (((W.setCell ⟨p, 0, none⟩ (.int .i64 (kk : Int))).setCell ⟨p, 1, none⟩ (.int .i64 0)).setCell ⟨p, 2, none⟩ (.slice A' D.length c')) (by go_simp) ?_ ?_
      · exact .inr ⟨rfl, st3_set hp HBK.out _ _ _⟩
      · exact ⟨p, A', c', e11, hp, set3 HBK.out _ _ _, levs_set3 (by decide) (by decide) HBK.out _ _ _ hL⟩
    | n + 9, h => exact absurd h (by simp)
  case hendA =>
    intro us W hg hf
    have h8 : Yb3 31 W4.heap.size (kk : Int) D (us 7) W := hf 8 (by simp)
    clear hf
    obtain ⟨p, Ap, cp, e11, hp, hblk, hLp⟩ := h8
    rw [e11]
    obtain ⟨M, hM⟩ : ∃ x, D.length = x := ⟨_, rfl⟩
    rw [hM] at hblk hLp hdl
    have HGW := Lib.hid (thn HB4.out hg)
    have tH := (hg.block bH LH.out).trans PH.out
    have tX := (hg.block bX LX.out).trans PX.out
    have HLH := Lib.hid (HL4.out.grow hg)
    have HLP := Lib.hid hLp
    have PP := Lib.hid hblk
    clear PH PX LH LX X0 X1 Y0 Y1 Y2
    have PH := Lib.hid tH
    have PX := Lib.hid tX
    have HM := Lib.hid hM
    clear hM hg tH tX e11 hblk hLp HL4 HB4 HD
    go_wp2
    go_loopw [10] (fun s10 wr => ∃ i : Nat, s10 = .int .i64 (i : Int) ∧ i ≤ N ∧ Below W.heap.size W wr) (fun s10 _ => N - (intOf s10).toNat)
    case atStart => exact ⟨0, rfl, Nat.zero_le _, Below.refl _ _⟩
    case round =>
      obtain ⟨i, rfl, hi, hbel⟩ := hrel
      have pH := (hbel.block _ (lt_of PH.out)).trans PH.out
      have pP := (hbel.block _ (lt_of PP.out)).trans PP.out
      have pX := (hbel.block _ (lt_of PX.out)).trans PX.out
      obtain ⟨y0, y1, y2⟩ := box3 pH
      obtain ⟨z0, z1, z2⟩ := box3 pP
      have lH := lt_of pH
      have lP := lt_of pP
      by_cases hlt : i < N
      · have hiL : i < L.length := by rw [HN.out]; exact hlt
        have hLr := HLH.out.grow hbel
        have hDr := HLP.out.grow hbel
        obtain ⟨b0, o0, rfl, hb0', -, hc⟩ := hLr.at (by omega)
        obtain ⟨Ai, ci, u0, u1, u2, hLi⟩ := hc i hiL
        rw [← lev_lt hiL] at u0 u1 hLi
        obtain ⟨k1, k2, k3, k4⟩ := HLVD.out i hlt
        have k5 := HSHP.out i hlt
        have k6 := HLEV.out i
        obtain ⟨l, hl⟩ : ∃ l, lev L i = l := ⟨_, rfl⟩
        obtain ⟨gn, hgn⟩ : ∃ g, olds n0 n1 l = g := ⟨_, rfl⟩
        have k4' : ∀ j (hj : j < l.length), oldB l[j].2 n0 n1 = decide (j < gn) := by
          subst hgn
          subst hl
          exact k4
        clear k4
        rw [hl] at u0 u1 hLi k1 k2 k3 k5 k6
        rw [hgn] at k1 k2 k3
        obtain ⟨s, hs⟩ : ∃ s, lev D i = s := ⟨_, rfl⟩
        rw [hs] at k1 k2
        have hst : ∃ As cs, (i < M → ∃ bD oD, Ap = some ⟨bD, oD, none⟩ ∧ bD < wr.heap.size ∧ wr.cell? ⟨bD, oD + i, none⟩ = some (.slice As s.length cs)) ∧ (¬ i < M → As = none ∧ s.length = 0 ∧ cs = 0) ∧ Lies spL wr wr.heap.size (.slice As s.length cs) s := by
          by_cases hiM : i < M
          · have hiD : i < D.length := by rw [HM.out]; exact hiM
            obtain ⟨bD, oD, e, hbD, -, hcD⟩ := hDr.at (by omega)
            obtain ⟨As, cs, w0', w1', w2', hLs⟩ := hcD i hiD
            rw [← lev_lt hiD, hs] at w0' w1' hLs
            exact ⟨As, cs, fun _ => ⟨bD, oD, e, hbD, w0'⟩, fun h => absurd hiM h, hLs⟩
          · have e : s = [] := by rw [← hs]; exact lev_ge (by rw [HM.out]; omega)
            refine ⟨none, 0, fun h => absurd h hiM, fun _ => ⟨rfl, by rw [e]; rfl, rfl⟩, ?_⟩
            rw [e]
            exact Lies.nil _ _ (by unfold maxLen; omega)
        obtain ⟨As, cs, st1, st2, hLs⟩ := hst
        obtain ⟨n, hn⟩ : ∃ n, l.length = n := ⟨_, rfl⟩
        obtain ⟨m, hm⟩ : ∃ m, s.length = m := ⟨_, rfl⟩
        rw [hn] at u0 u1 hLi k2 k3 k5 k6
        rw [hm] at k2 st1 st2 hLs
        obtain ⟨b2, off2, rfl, hb2', -, hc2⟩ := sp_at hLi (by rw [hn]; omega)
        have lb0 : b0 < wr.heap.size := hb0'
        have hgI : (n : Int) - (m : Int) = (gn : Int) := by omega
        have ST1 := Lib.hid st1
        have ST2 := Lib.hid st2
        have HLS := Lib.hid hLs
        have HLI := Lib.hid hLi
        have K1 := Lib.hid k1
        have K2 := Lib.hid k2
        have K4 := Lib.hid k4'
        have HNL := Lib.hid hn
        have HML := Lib.hid hm
        have HBEL := Lib.hid hbel
        have U0 := Lib.hid u0
        have HC2 := Lib.hid hc2
        have PPH := Lib.hid pH
        have PPX := Lib.hid pX
        rename World => wo
        clear st1 st2 hLs hLi k1 k2 k4' hn hm hbel hc hLr hDr hl hs hgn hiL pH pP pX hc2
        go_upto_if 36 with (fail)
        go_cut [11] from 32 to 41 (fun s11 wx => s11 = .slice As m cs ∧ wo = wx)
        case first =>
          by_cases hiM : i < M
          · obtain ⟨bD, oD, e, hbD, w0'⟩ := ST1.out hiM
            subst e
            have hd : decide (i < M) = true := by simpa using hiM
            go_wp2
            go_meet
            case rel => exact ⟨rfl, rfl⟩
          · obtain ⟨rfl, e2, rfl⟩ := ST2.out hiM
            have hd : decide (i < M) = false := by simpa using hiM
            subst e2
            clear hgI
            go_wp2
            go_meet
            case rel => exact ⟨rfl, rfl⟩
        case rest =>
          obtain ⟨rfl, rfl⟩ := hcut
          have hsm : Calls Try.prog 16 #[.slice As m cs, .slice (if ci = gn then some ⟨b2, off2, none⟩ else some ⟨b2, off2 + gn * 2, none⟩) (n - gn) (ci - gn)] wo fun e w' => e = .returned (.bool true) ∧ Below wo.heap.size wo w' := by
            have hLi := HLI.out
            rw [← HNL.out] at hLi
            have hd := hLi.drop gn (by rw [HNL.out]; exact k3) (if ci = gn then some ⟨b2, off2, none⟩ else some ⟨b2, off2 + gn * 2, none⟩) (by
              intro b off e h1
              injection e with e
              injection e with e1 e2
              subst e1 e2
              rw [if_neg (by omega)]
              rfl)
            have := rEq_any s (l.drop gn) (by rw [HML.out]; have := K2.out; omega) wo wo.heap.size (Nat.le_refl _) As (if ci = gn then some ⟨b2, off2, none⟩ else some ⟨b2, off2 + gn * 2, none⟩) cs (ci - gn) (by rw [HML.out]; exact HLS.out) (by rw [List.length_drop]; exact hd)
            rw [show decide (s = l.drop gn) = true by rw [K1.out]; simp, List.length_drop, HML.out, HNL.out] at this
            exact this
          have HSM := Lib.hid hsm
          have g0 : ¬ ((gn : Int) < 0) := by omega
          have g2 : (gn : Int) ≤ (ci : Int) := by omega
          clear hsm
          go_upto_region 11 with (fail)
          go_cut [64] from 42 to 64 (fun s64 wx => s64 = .bool false ∧ Below wo.heap.size wo wx)
          case first =>
            go_wp2_with (go_at_call 16; (with_reducible refine HSM.out.mono ?_); rintro e w7 ⟨rfl, hb7⟩; have HB7 := Lib.hid hb7; clear hb7)
            all_goals (go_meet; case rel => exact ⟨rfl, HB7.out⟩)
          case rest =>
          obtain ⟨rfl, hb7⟩ := hcut
          have HB7 := Lib.hid hb7
          clear hb7 g0 g2 hgI y0 y1 y2 z0 z1 z2 lH lP u0 HSM
          go_wp2
          go_loopw [13] (fun s13 wr => ∃ j : Nat, s13 = .int .i64 (j : Int) ∧ j ≤ n ∧ Below wo.heap.size wo wr) (fun s13 _ => n - (intOf s13).toNat)
          case atStart => exact ⟨0, rfl, Nat.zero_le _, HB7.out⟩
          case round =>
            obtain ⟨j, rfl, hj, hbel⟩ := hrel
            have pH := (hbel.block _ (lt_of PPH.out)).trans PPH.out
            have pX := (hbel.block _ (lt_of PPX.out)).trans PPX.out
            obtain ⟨y0, y1, y2⟩ := box3 pH
            obtain ⟨x0, x1, -, -⟩ := box2 pX
            have lH := lt_of pH
            have lX := lt_of pX
            have u0 := (hbel.cell (p := ⟨b0, o0 + i, none⟩) lb0).trans U0.out
            have lb := Nat.lt_of_lt_of_le lb0 hbel.size
            have HBL := Lib.hid hbel
            by_cases hjt : j < n
            · have hjl : j < l.length := by rw [HNL.out]; exact hjt
              obtain ⟨-, e1⟩ := HC2.out j hjl
              replace e1 := (hbel.cell (p := ⟨b2, off2 + j * 2 + 1, none⟩) hb2').trans e1
              have lb2 := Nat.lt_of_lt_of_le hb2' hbel.size
              have hold := K4.out j hjl
              obtain ⟨x, hx⟩ : ∃ x, l[j] = x := ⟨_, rfl⟩
              rw [hx] at e1 hold
              have hro := fun (W : World) => rold_any x.2 n0 n1 W hb0
              obtain ⟨q, hq⟩ : ∃ q, decide (j < gn) = q := ⟨_, rfl⟩
              rw [hq] at hold
              simp only [hold] at hro
              have HRO := Lib.hid hro
              clear hro hold hx hjl hbel pH pX
              go_upto_region 16 with (fail)
              cases q
              all_goals
                go_quiet ((go_at_call 15; exact Calls.quiet_of_same ((HRO.out _).mono fun _ _ ⟨h1, h2⟩ => ⟨h1, h2.symm⟩)))
                go_wp2
                refine ⟨⟨j + 1, by go_num, hjt, below_drewN HBL.out _⟩, by simp [intOf]; omega⟩
            · clear hbel pH pX
              go_wp2
              refine ⟨⟨i + 1, by go_num, hlt, thn HBEL.out HBL.out⟩, by simp [intOf]; omega⟩
      · have hd : decide (M ≤ N) = true := by simpa using hdl
        clear pH pP pX
        go_wp2
        go_ret
        exact ⟨rfl, thn HGW.out hbel⟩

set_option maxRecDepth 100000 in
theorem lifted (os : Os) (started : os.Started) (H : Type) (enc : TypeId × Value → H) :
    ReturnsInHanded {} Try.checked os 4 .any (Rows.expiryStaysSpec.pre6 enc Try.prog Try.f4 Rows.expiryStaysRow.domain false) (Rows.expiryStaysSpec.post enc Try.prog Try.f4 false true false false) := by
  refine returnsInHanded_of_change (C := Try.checked) own started (by kernel_rfl) Try.func4
    (ChangeSpec.witness6 (enc := enc) (C := Try.checked) false ⟨#[], #[.int .i64 0, .slice none 0 0, .agg #[.int .u64 0, .int .u64 0]], []⟩ 8 (by kernel_rfl) (by kernel_rfl) (by kernel_rfl) (by kernel_rfl)) ?_
  intro W base args ds gs before hval0 hW hcnd _
  have hval : ∀ (j : Nat) t v, Try.f4.params[j]? = some t → args[j]? = some v → Value.okWide Try.prog W .any base t v := hval0
  have hW' := hW
  obtain ⟨p, q, hA0, hV, rfl, hfz, hnd⟩ := hW
  have hA : DataW.TrodAll enc Try.prog W 0 (fun _ => true) true Try.f4.params.toList args.toList ds p := hA0
  rw [Try.params4] at hA hval
  obtain ⟨v0, vs0, d0, ds0, p0, q0, hargs, rfl, rfl, h0, r0⟩ := trodAll_cons hA
  obtain ⟨v1, vs1, d1, ds1, p1, q1, rfl, rfl, rfl, h1, r1⟩ := trodAll_cons r0
  obtain ⟨v2, vs2, d2, ds2, p2, q2, rfl, rfl, rfl, h2, r2⟩ := trodAll_cons r1
  obtain ⟨rfl, rfl, rfl⟩ := trodAll_nil r2
  obtain rfl : args = #[v0, v1, v2] := by cases args; simp_all
  obtain ⟨rfl, rfl⟩ := trodVars_none hV
  obtain ⟨a0, rfl, rfl, rfl, w0⟩ := open_int Try.underlying3 (hval 0 3 v0 rfl rfl) h0
  obtain ⟨a1, len1, cap1, rfl⟩ := okWide_slice Try.underlying22 (hval 1 22 v1 rfl rfl)
  have k1 := h1
  have lt1 : ∀ x ∈ p1, x.block < W.heap.size := by obtain ⟨m, hm⟩ := k1; exact DataW.trod_lt m _ _ _ hm
  obtain ⟨z1, w1⟩ := Op.open_flats (f := 9) (ks := [.u64, .u64]) Try.underlying22 (by kernel_rfl) (by kernel_rfl) (by decide) h1
  have k2 := h2
  have lt2 : ∀ x ∈ p2, x.block < W.heap.size := by obtain ⟨m, hm⟩ := k2; exact DataW.trod_lt m _ _ _ hm
  obtain ⟨c2, rfl, fit2⟩ := Op.open_flat (f := 9) (ks := [.u64, .u64]) (by kernel_rfl) (by kernel_rfl) (hval 2 37 v2 rfl rfl) h2
  obtain ⟨a2_0, a2_1, rfl, w2_0, w2_1⟩ := fit2_of fit2
  clear hA0 hval0
  refine (walk a0 a1 len1 cap1 z1 a2_0 a2_1 W w0 w1 w2_0 w2_1).mono fun e W' ⟨he, bel⟩ => ?_
  subst he
  exact ⟨_, rfl, _, _, _, [], _, [], hW', trodAll_mk1 (shut_bool Try.underlying4 _), (trodAll_cons_mk (shut_int Try.underlying3 w0) (trodAll_cons_mk (Below.trod laidOut (by kernel_rfl) (of_decide_eq_true (by kernel_rfl)) k1 bel lt1) (trodAll_cons_mk (Below.trod laidOut (by kernel_rfl) (of_decide_eq_true (by kernel_rfl)) k2 bel lt2) trodAll_mk0))), rfl, bel.frame _, fun h => by cases h⟩

theorem over : Rows.expiryStaysRow.holds Try.pinned (OpenSpec.ofChange Rows.expiryStaysSpec) :=
  OpenClaim.holds_of_wide 4 Try.f4 rfl rfl rfl rfl rfl rfl rfl ⟨rfl, rfl, rfl, rfl, rfl⟩ rfl rfl rfl rfl rfl (by kernel_rfl) Try.func4 (by kernel_rfl)
    (of_decide_eq_true (by kernel_rfl)) (by unfold Func.isWrapper; first | (rw [if_pos (by decide +kernel)]; kernel_rfl) | (rw [if_neg (by decide +kernel)]; exact ⟨rfl, rfl⟩))
    (fun os started H enc _ => lifted os started H enc)

/-- The statement. -/
theorem proved : Rows.ExpiryStaysSaid := over
#print axioms proved
end Go.Proofs.Ytafcgfhkeceiaaa.expiryStays
