/-
  'skylight/skylightlaw10.ReplaySmall' returns true for every input, and the input reads afterwards as it read before. Conditions: none.
-/
import Derived.Test.YtpdhkpgnajfobaaRows
import Derived.WalkKit
import Derived.ProofKit
import Derived.OpenShut
import Derived.ShutString
import Derived.ChangeOld
import Derived.Below
import Derived.Test.YtpdhkpgnajfobaaJ01
import Derived.Test.YtpdhkpgnajfobaaJ24
namespace Go.Proofs.Ytpdhkpgnajfobaa.replaySmall
open Go.Proofs Go.Proofs.Rn Go.Proofs.Op Go.Proofs.Rw Go.Proofs.Lm Go.Proofs.Lh Go.Proofs.Rf Go.Proofs.Dg
open Go.ChangeShapes Go.WideShapes Go.ChangeAt Go.RowKit
open Go.ChangeMaps (open_string shut_string)
set_option linter.unusedVariables false

theorem own : ownKnob Try.prog.godebug = none := by kernel_rfl
theorem laidOut : laidOutB Try.prog = true := by kernel_rfl

/-- A slice of integers that came in: nil, or a row of cells of its capacity, each fitting its kind. -/
def IsRow (k : IntKind) (w : World) (a : Option Addr) (len cap : Nat) (zs : List Int) : Prop :=
  (a = none ∧ len = 0 ∧ cap = 0 ∧ zs = []) ∨
  ∃ x, a = some x ∧ len ≤ cap ∧ cap ≤ maxLen ∧ zs.length = cap ∧ (∀ i, i < zs.length → w.cell? (x.add i) = some (.int k (zs.getD i 0))) ∧ ∀ n ∈ zs, (Lit.int k n).wf = true

open Go.RowKit Go.Shelf Go.Proofs.Rw Go.Proofs.Lh Go.Proofs.Rf

set_option maxRecDepth 100000 in
set_option maxHeartbeats 4000000 in
theorem walk (a0_0 a0_5 : Int) (a0 : Fin 4 → Option Addr) (len0 cap0 : Fin 4 → Nat) (z0 : Fin 4 → Nat → Nat → Int) (w : World) (w0_0 : (Lit.int .i64 a0_0).wf = true) (w0_5 : (Lit.int .u8 a0_5).wf = true) (w0 : ∀ j : Fin 4, Op.FlatRow [.u64, .u64] w (a0 j) (len0 j) (cap0 j) (z0 j)) :
    Calls Try.prog 7 #[.agg #[.int .i64 a0_0, .slice (a0 0) (len0 0) (cap0 0), .slice (a0 1) (len0 1) (cap0 1), .slice (a0 2) (len0 2) (cap0 2), .slice (a0 3) (len0 3) (cap0 3), .int .u8 a0_5]] w fun e w' => e = .returned (.bool true) ∧ Below w.heap.size w w' := by
  obtain ⟨t, hok, ht⟩ := tr_frame w0_0 w0_5 w0
  rw [ht]
  clear ht w0_0 w0_5 w0
  obtain ⟨W0, hW0⟩ : ∃ W, w.alloc (.cells t.cells 38) = W := ⟨_, rfl⟩
  have hB0 : Below w.heap.size w W0 := by rw [← hW0]; exact (Below.refl _ w).alloc (Nat.le_refl _) _
  have p0 : W0.heap[w.heap.size]? = some (.cells t.cells 38) := by rw [← hW0]; exact heap_alloc_new w _
  have HOK := Lib.hid (hok.grow hB0)
  have HB0 := Lib.hid hB0
  have P0 := Lib.hid p0
  have HW0 := Lib.hid hW0
  clear hok hB0 p0 hW0
  go_enter Try.func7, Try.ntmps7
  go_upto_region 1 with (fail)
  rw [HW0.out]
  go_upto_region 2 with (go_at_call 9; refine (awake_any _).mono ?_; rintro e w1 ⟨rfl, hb1⟩; have HB1 := Lib.hid hb1; clear hb1)
  have HOK1 := Lib.hid (HOK.out.grow HB1.out)
  have hp1 := (HB1.out.block _ (lt_of P0.out)).trans P0.out
  have HP1 := Lib.hid hp1
  have HW1 := Lib.hid (thn HB0.out HB1.out)
  obtain ⟨z0, z1, z5⟩ := tr_box hp1
  have z10 := z1 0 (by omega)
  have z11 := z1 1 (by omega)
  have z12 := z1 2 (by omega)
  have z13 := z1 3 (by omega)
  have l0 := lt_of hp1
  clear z1 hp1 HOK HB0 P0 HW0 HB1
  go_upto_region 4 with (go_at_call 12; refine (lightT_any t _ HOK1.out).mono ?_; rintro e w2 ⟨q, rfl, hq, hb2⟩; have HQ := Lib.hid hq; have HB2 := Lib.hid hb2; clear hq hb2; cases q)
  all_goals try (go_ret; exact ⟨rfl, thn HW1.out HB2.out⟩)
  have HLI := Lib.hid (HQ.out (by simp))
  have hp2 := (HB2.out.block _ (lt_of HP1.out)).trans HP1.out
  have HOK2 := Lib.hid (HOK1.out.grow HB2.out)
  have HW2 := Lib.hid (thn HW1.out HB2.out)
  have HP2 := Lib.hid hp2
  clear z0 z10 z11 z12 z13 z5 l0 HOK1 HP1 HW1 HB2 HQ
  obtain ⟨z0, z1, z5⟩ := tr_box hp2
  have z10 := z1 0 (by omega)
  have z11 := z1 1 (by omega)
  have z12 := z1 2 (by omega)
  have z13 := z1 3 (by omega)
  have l0 := lt_of hp2
  clear z1
  clear hp2
  have hbu := built_any t w2 HOK2.out HLI.out
  obtain ⟨kk, hkk⟩ : ∃ x, kOf t.K = x := ⟨_, rfl⟩
  obtain ⟨d, hd⟩ : ∃ x, t.deep % 5 = x := ⟨_, rfl⟩
  rw [hkk, hd] at hbu
  have hbu2 : Calls Try.prog 18 #[.agg t.cells] w2 fun e w' => ∃ (A : Option Addr) (c : Nat) (L : Lv) (N : Nat), e = .returned (.agg #[.int .i64 (kk : Int), .int .i64 (d : Int), .slice A N c]) ∧ L.length = N ∧ Levs w' w'.heap.size (.slice A N c) L ∧ Stood t kk d L ∧ Below w2.heap.size w2 w' := hbu.mono (by rintro e w' ⟨A, c, L, rfl, h1, h2, h3⟩; exact ⟨A, c, L, _, rfl, rfl, h1, h2, h3⟩)
  have HBU := Lib.hid hbu2
  have HD := Lib.hid hd
  have HKK := Lib.hid hkk
  clear hbu hbu2 hd hkk
  go_upto_region 5 with (go_at_call 18; refine HBU.out.mono ?_; rintro e w3 ⟨A, c, L, N, rfl, hN, hL3, hst, hb3⟩; have HN := Lib.hid hN; have HL3 := Lib.hid hL3; have HST := Lib.hid hst; have HB3 := Lib.hid hb3; clear hL3 hst hb3 hN)
  obtain ⟨W4, hW4⟩ : ∃ W, w3.alloc (.cells #[.int .i64 (kk : Int), .int .i64 (d : Int), .slice A N c] 29) = W := ⟨_, rfl⟩
  have hB4 : Below w3.heap.size w3 W4 := by rw [← hW4]; exact (Below.refl _ w3).alloc (Nat.le_refl _) _
  have pH : W4.heap[w3.heap.size]? = some (.cells #[.int .i64 (kk : Int), .int .i64 (d : Int), .slice A N c] 29) := by rw [← hW4]; exact heap_alloc_new w3 _
  rw [hW4]
  have hB34 := thn HB3.out hB4
  have hp4 := (hB34.block _ (lt_of HP2.out)).trans HP2.out
  have HP4 := Lib.hid hp4
  have HB4 := Lib.hid hB34
  have HW4 := Lib.hid (thn HW2.out hB34)
  have HL4 := Lib.hid (HL3.out.grow hB4)
  have HOK4 := Lib.hid (HOK2.out.grow hB34)
  obtain ⟨bH, hbH⟩ : ∃ b, w3.heap.size = b := ⟨_, rfl⟩
  rw [hbH] at pH ⊢
  have PH := Lib.hid pH
  obtain ⟨y0, y1, y2⟩ := box3 pH
  have lH := lt_of pH
  clear z0 z10 z11 z12 z13 z5 l0 HBU hW4 hB4 pH hB34 hp4 hbH HP2 HB3 HL3 HOK2 HW2
  obtain ⟨rl, hrl⟩ : ∃ x, tot L = x := ⟨_, rfl⟩
  have hre : ∀ W : World, Grows W4 W → Calls Try.prog 20 #[.agg t.cells, .int .u64 0, .int .u64 1] W fun e w' => e = .returned (.int .u64 (rl : Int)) ∧ Below W.heap.size W w' := by
    intro W hW
    have := real_any t 0 1 (by omega) W (HOK4.out.grow hW) HLI.out
    rw [HD.out, HST.out.all, hrl] at this
    exact this
  have HRE := Lib.hid hre
  have hrl2 : rl ≤ 263882790666240 := by rw [← hrl]; exact HST.out.light
  have HRL := Lib.hid hrl2
  have hsm := HST.out.made.small_all HST.out.d4
  have hbl := bound_le (kk : Int) (d : Int) rl (by omega)
  have hsm2 : cnt L ≤ boundN (kk : Int) (d : Int) rl := by rw [← hrl]; exact hsm
  obtain ⟨cn, hcn⟩ : ∃ x, cnt L = x := ⟨_, rfl⟩
  obtain ⟨bn, hbn⟩ : ∃ x, boundN (kk : Int) (d : Int) rl = x := ⟨_, rfl⟩
  rw [hcn, hbn] at hsm2
  rw [hbn] at hbl
  have HCB := Lib.hid hsm2
  have HCN := Lib.hid (And.intro hcn (And.intro hsm2 (Nat.le_trans hsm2 hbl)))
  have HBN := Lib.hid (And.intro hbn hbl)
  obtain ⟨hg1, ht1⟩ := HST.out.one 1 (by omega)
  obtain ⟨L1, hL1⟩ : ∃ x, lvT t 1 = x := ⟨_, rfl⟩
  have hma : ∀ W, Grows W4 W → Calls Try.prog 10 #[.int .i64 t.K, .slice (t.A 1) (t.ds 1).length (t.c 1)] W fun e w' => ∃ A c, e = .returned (hv (kOf t.K) 0 (.slice A (lvT t 1).length c)) ∧ Levs w' w'.heap.size (.slice A (lvT t 1).length c) (lvT t 1) ∧ Below W.heap.size W w' := fun W hW => gmade_any t.K HOK4.out.wf (t.ds 1) W (t.A 1) _ (t.c 1) ((HOK4.out.deeds 1 (by omega)).grow hW)
  rw [hL1] at hg1 ht1
  simp only [hL1, HKK.out] at hma
  have hout := out_pair HST.out.good hg1 HST.out.d4 (by have := HST.out.light; omega)
  have hmg : ∀ (W : World) (Am : Option Addr) (b cm : Nat), Hs W W.heap.size (.slice (some ⟨b, 0, none⟩) 2 2) [⟨(kk : Int), (d : Int), A, c, L⟩, ⟨(kk : Int), 0, Am, cm, L1⟩] → Calls Try.prog 11 #[.slice (some ⟨b, 0, none⟩) 2 2] W fun e w' => ∃ (Aa : Option Addr) (ca : Nat) (Ab : Option Addr) (cb : Nat), e = .returned (.tuple #[.agg #[.int .i64 (outM [] [((kk : Int), (d : Int), L), ((kk : Int), 0, L1)]).1, .int .i64 (outM [] [((kk : Int), (d : Int), L), ((kk : Int), 0, L1)]).2.1, .slice Aa (outM [] [((kk : Int), (d : Int), L), ((kk : Int), 0, L1)]).2.2.length ca], .agg #[.int .i64 (outM [] [((kk : Int), (d : Int), L), ((kk : Int), 0, L1)]).1, .int .i64 (outM [] [((kk : Int), (d : Int), L), ((kk : Int), 0, L1)]).2.1, .slice Ab (outM [] [((kk : Int), (d : Int), L), ((kk : Int), 0, L1)]).2.2.length cb], .bool true]) ∧ Levs w' w'.heap.size (.slice Aa (outM [] [((kk : Int), (d : Int), L), ((kk : Int), 0, L1)]).2.2.length ca) (outM [] [((kk : Int), (d : Int), L), ((kk : Int), 0, L1)]).2.2 ∧ Levs w' w'.heap.size (.slice Ab (outM [] [((kk : Int), (d : Int), L), ((kk : Int), 0, L1)]).2.2.length cb) (outM [] [((kk : Int), (d : Int), L), ((kk : Int), 0, L1)]).2.2 ∧ Below W.heap.size W w' := by
    intro W Am b cm hs
    exact merged_any [⟨(kk : Int), (d : Int), A, c, L⟩, ⟨(kk : Int), 0, Am, cm, L1⟩] ⟨by simp, by simp, (by intro e he; cases he), by
      intro x hx
      simp only [List.mem_cons, List.not_mem_nil, or_false] at hx
      rcases hx with rfl | rfl
      · exact HST.out.good
      · exact hg1⟩ W _ 2 hs
  obtain ⟨o, ho⟩ : ∃ o, outM [] [((kk : Int), (d : Int), L), ((kk : Int), 0, L1)] = o := ⟨_, rfl⟩
  rw [ho] at hout
  simp only [ho] at hmg
  obtain ⟨o1, o2, o3⟩ := o
  dsimp only at hout hmg
  obtain ⟨hq1, hq2, hq3, hq4⟩ := hout
  have HOUT := Lib.hid (And.intro hq1 hq2)
  have HOL := Lib.hid (And.intro hq3 hq4)
  obtain ⟨tt, htt⟩ : ∃ x, tot o3 = x := ⟨_, rfl⟩
  have HTT := Lib.hid htt
  have hmg2 := hmg
  have HMG := Lib.hid hmg2
  clear hmg hmg2 htt hq1 hq2 hq3 hq4 ho hre hrl hrl2 hsm hbl hsm2 hcn hbn hg1 ht1 hL1
  have hp4 := HP4.out
  obtain ⟨z0, z1, z5⟩ := tr_box hp4
  have z10 := z1 0 (by omega)
  have z11 := z1 1 (by omega)
  have z12 := z1 2 (by omega)
  have z13 := z1 3 (by omega)
  have l0 := lt_of hp4
  clear z1
  clear hp4
  have hre2 := HRE.out W4 (Below.refl _ _)
  have HRE2 := Lib.hid hre2
  have HMA4 := Lib.hid hma
  clear hre2 HRE hma
  go_upto_region 6 with (go_at_call 20; refine HRE2.out.mono ?_; rintro e w6 ⟨rfl, hb6⟩; have HB6 := Lib.hid hb6; clear hb6)
  have hp6 := (HB6.out.block _ (lt_of HP4.out)).trans HP4.out
  have hh6 := (HB6.out.block _ (lt_of PH.out)).trans PH.out
  obtain ⟨z0', z1', -⟩ := tr_box hp6
  have z2' := z1' 1 (by omega)
  obtain ⟨h0', h1', h2'⟩ := box3 hh6
  have LXX := Lib.hid (lt_of hp6)
  have LYH := Lib.hid (lt_of hh6)
  have PH6 := Lib.hid hh6
  have Y0 := Lib.hid h0'
  have Y1 := Lib.hid h1'
  have Y2 := Lib.hid h2'
  have HL6 := Lib.hid (HL4.out.grow HB6.out)
  have HW6 := Lib.hid (thn HW4.out HB6.out)
  have hma6 := fun (W : World) (hW : Grows w6 W) => HMA4.out W (thn HB6.out hW)
  obtain ⟨K, hK⟩ : ∃ x, t.K = x := ⟨_, rfl⟩
  obtain ⟨A1, hA1⟩ : ∃ x, t.A 1 = x := ⟨_, rfl⟩
  obtain ⟨N1, hN1⟩ : ∃ x, (t.ds 1).length = x := ⟨_, rfl⟩
  obtain ⟨c1, hc1⟩ : ∃ x, t.c 1 = x := ⟨_, rfl⟩
  rw [hK] at z0'
  rw [hA1, hN1, hc1] at z2'
  simp only [hK, hA1, hN1, hc1] at hma6
  have HMA := Lib.hid hma6
  have K0 := Lib.hid z0'
  have K2 := Lib.hid z2'
  clear hp6 hh6 z0' z1' z2' h0' h1' h2' hma6 hK hA1 hN1 hc1 HMA4 z0 z10 z11 z12 z13 z5 l0 y0 y1 y2 lH HP4 HB4 HB6 HOK4 HL4 HW4 PH
  refine region_all (fr := ?frA) (fun i us W => match i with
      | 0 => us 0 = .agg #[.int .i64 (kk : Int), .int .i64 (d : Int), .slice A N c]
      | 1 => us 1 = .pointer (some ⟨w.heap.size, 0, none⟩)
      | 2 => us 2 = .int .i64 K
      | 3 => us 3 = .pointer (some ⟨w.heap.size, 1, none⟩)
      | 4 => us 4 = .pointer (some ⟨w.heap.size, 2, none⟩)
      | 5 => us 5 = .slice A1 N1 c1
      | 6 => Hq (kk : Int) 0 L1 (us 6) W
      | 7 => ∃ (Am : Option Addr) (cm : Nat), Bs 29 [⟨(kk : Int), (d : Int), A, c, L⟩, ⟨(kk : Int), 0, Am, cm, L1⟩] (us 7) W
      | 8 => Mq o1 o2 o3 (us 8) W
      | 9 => Mq o1 o2 o3 (us 9) W
      | 10 => Hq o1 o2 o3 (us 10) W
      | 11 => Hq o1 o2 o3 (us 11) W
      | 12 => us 12 = .bool true
      | 13 => Nw3 32 w6.heap.size (us 13) W
      | 14 => Nw3 29 w6.heap.size (us 14) W
      | 15 => Yg 32 w6.heap.size o1 o2 o3 (us 13) W
      | 16 => Yg 29 w6.heap.size o1 o2 o3 (us 14) W
      | 17 => us 17 = .bool true
      | _ => True) (fun j W W' => Es (two 15 16 32 29) w6.heap.size j W W') (fun W => Below w6.heap.size w6 W) rfl ?hBA ?hfrA ?hlocA ?hstA ?hG0A ?hGA ?hopA ?hendA
  case hBA => kernel_rfl
  case hfrA =>
    intro us
    simp only [List.length_cons, List.length_nil, Nat.zero_add, Nat.reduceAdd, putO, dstO]
    go_simp
    rfl
  case hlocA =>
    intro i us us' W h hf
    match i with
    | 0 =>
      have e0 := h 0 (.inl rfl)
      try dsimp only at hf ⊢
      rw [e0] at hf
      exact hf
    | 1 =>
      have e1 := h 1 (.inl rfl)
      try dsimp only at hf ⊢
      rw [e1] at hf
      exact hf
    | 2 =>
      have e2 := h 2 (.inl rfl)
      try dsimp only at hf ⊢
      rw [e2] at hf
      exact hf
    | 3 =>
      have e3 := h 3 (.inl rfl)
      try dsimp only at hf ⊢
      rw [e3] at hf
      exact hf
    | 4 =>
      have e4 := h 4 (.inl rfl)
      try dsimp only at hf ⊢
      rw [e4] at hf
      exact hf
    | 5 =>
      have e5 := h 5 (.inl rfl)
      try dsimp only at hf ⊢
      rw [e5] at hf
      exact hf
    | 6 =>
      have e6 := h 6 (.inl rfl)
      try dsimp only at hf ⊢
      rw [e6] at hf
      exact hf
    | 7 =>
      have e7 := h 7 (.inl rfl)
      try dsimp only at hf ⊢
      rw [e7] at hf
      exact hf
    | 8 =>
      have e8 := h 8 (.inl rfl)
      try dsimp only at hf ⊢
      rw [e8] at hf
      exact hf
    | 9 =>
      have e9 := h 9 (.inl rfl)
      try dsimp only at hf ⊢
      rw [e9] at hf
      exact hf
    | 10 =>
      have e10 := h 10 (.inl rfl)
      try dsimp only at hf ⊢
      rw [e10] at hf
      exact hf
    | 11 =>
      have e11 := h 11 (.inl rfl)
      try dsimp only at hf ⊢
      rw [e11] at hf
      exact hf
    | 12 =>
      have e12 := h 12 (.inl rfl)
      try dsimp only at hf ⊢
      rw [e12] at hf
      exact hf
    | 13 =>
      have e13 := h 13 (.inl rfl)
      try dsimp only at hf ⊢
      rw [e13] at hf
      exact hf
    | 14 =>
      have e14 := h 14 (.inl rfl)
      try dsimp only at hf ⊢
      rw [e14] at hf
      exact hf
    | 15 =>
      have e13 := h 13 (.inr (by kernel_rfl))
      try dsimp only at hf ⊢
      rw [e13] at hf
      exact hf
    | 16 =>
      have e14 := h 14 (.inr (by kernel_rfl))
      try dsimp only at hf ⊢
      rw [e14] at hf
      exact hf
    | 17 =>
      have e17 := h 17 (.inl rfl)
      try dsimp only at hf ⊢
      rw [e17] at hf
      exact hf
    | n + 18 => trivial
  case hstA =>
    intro i j us W W' hne hw hi hj hE hf
    match i with
    | 0 => exact hf
    | 1 => exact hf
    | 2 => exact hf
    | 3 => exact hf
    | 4 => exact hf
    | 5 => exact hf
    | 6 =>
      exact hq_es hE hf
    | 7 =>
      obtain ⟨Am, cm, hb⟩ := hf
      exact ⟨Am, cm, bs_es hE hb⟩
    | 8 =>
      exact mq_es hE hf
    | 9 =>
      exact mq_es hE hf
    | 10 =>
      exact hq_es hE hf
    | 11 =>
      exact hq_es hE hf
    | 12 => exact hf
    | 13 =>
      exact nw3_es hE hf
    | 14 =>
      exact nw3_es hE hf
    | 15 =>
      exact yg_es hE (two_ne1 (Ne.symm hne) (by decide)) hf
    | 16 =>
      exact yg_es hE (two_ne2 (Ne.symm hne) (by decide)) hf
    | 17 => exact hf
    | n + 18 => trivial
  case hG0A =>
    exact (Below.refl _ w6).drew
  case hGA =>
    intro j W W' hE hg
    exact Es.below hE hg hg.size
  case hopA =>
    intro i hi us W hg hd hq
    match i, hi with
    | 0, _ =>
      clear hd hq
      have q0 := (hg.cell (p := ⟨bH, 0, none⟩) LYH.out).trans Y0.out
      have q1 := (hg.cell (p := ⟨bH, 1, none⟩) LYH.out).trans Y1.out
      have q2 := (hg.cell (p := ⟨bH, 2, none⟩) LYH.out).trans Y2.out
      refine all_value rfl rfl (.agg #[.int .i64 (kk : Int), .int .i64 (d : Int), .slice A N c]) W (by go_simp) ?_ ?_
      · exact .inl (Grows.refl _)
      · rfl
    | 1, _ =>
      clear hd hq
      refine all_value rfl rfl (.pointer (some ⟨w.heap.size, 0, none⟩)) W (by go_simp) ?_ ?_
      · exact .inl (Grows.refl _)
      · rfl
    | 2, _ =>
      have h1 : us 1 = .pointer (some ⟨w.heap.size, 0, none⟩) := hd 1 (by kernel_rfl)
      clear hd hq
      have q0 := (hg.cell (p := ⟨w.heap.size, 0, none⟩) LXX.out).trans K0.out
      refine all_value rfl rfl (.int .i64 K) W (by go_simp) ?_ ?_
      · exact .inl (Grows.refl _)
      · rfl
    | 3, _ =>
      clear hd hq
      refine all_value rfl rfl (.pointer (some ⟨w.heap.size, 1, none⟩)) W (by go_simp) ?_ ?_
      · exact .inl (Grows.refl _)
      · rfl
    | 4, _ =>
      have h3 : us 3 = .pointer (some ⟨w.heap.size, 1, none⟩) := hd 3 (by kernel_rfl)
      clear hd hq
      refine all_value rfl rfl (.pointer (some ⟨w.heap.size, 2, none⟩)) W (by go_simp) ?_ ?_
      · exact .inl (Grows.refl _)
      · rfl
    | 5, _ =>
      have h4 : us 4 = .pointer (some ⟨w.heap.size, 2, none⟩) := hd 4 (by kernel_rfl)
      clear hd hq
      have q0 := (hg.cell (p := ⟨w.heap.size, 2, none⟩) LXX.out).trans K2.out
      refine all_value rfl rfl (.slice A1 N1 c1) W (by go_simp) ?_ ?_
      · exact .inl (Grows.refl _)
      · rfl
    | 6, _ =>
      have h2 : us 2 = .int .i64 K := hd 2 (by kernel_rfl)
      have h5 : us 5 = .slice A1 N1 c1 := hd 5 (by kernel_rfl)
      clear hd hq
      refine all_call rfl rfl 10 #[.int .i64 K, .slice A1 N1 c1] (by go_simp) ?_
      exact (HMA.out W hg).mono fun _ W' ⟨A', c', he, hL, hb⟩ => ⟨_, he, .inl hb, ⟨A', c', rfl, hL⟩⟩
    | 7, _ =>
      have h0 : us 0 = .agg #[.int .i64 (kk : Int), .int .i64 (d : Int), .slice A N c] := hd 0 (by kernel_rfl)
      have h6 : Hq (kk : Int) 0 L1 (us 6) W := hd 6 (by kernel_rfl)
      clear hd hq
      obtain ⟨Am, cm, e6, hL⟩ := h6
      refine all_value rfl rfl (.slice (some ⟨W.heap.size, 0, none⟩) 2 2) (W.alloc (.cells #[.int .i64 (kk : Int), .int .i64 (d : Int), .slice A N c, .int .i64 (kk : Int), .int .i64 0, .slice Am L1.length cm] 29)) (by go_simp) ?_ ?_
      · exact .inl (Grows.alloc _ _)
      · refine ⟨Am, cm, W.heap.size, _, rfl, World.alloc_heap_new _ _, by rw [show N = L.length from HN.out.symm]; rfl, by simp, ?_⟩
        have hal := Grows.alloc W (.cells #[.int .i64 (kk : Int), .int .i64 (d : Int), .slice A N c, .int .i64 (kk : Int), .int .i64 0, .slice Am L1.length cm] 29)
        intro x hx
        simp only [List.mem_cons, List.not_mem_nil, or_false] at hx
        rcases hx with rfl | rfl
        · have := (HL6.out.grow hg).grow hal
          rw [show N = L.length from HN.out.symm] at this ⊢
          exact this
        · exact hL.grow hal
    | 8, _ =>
      have h7 : ∃ (Am : Option Addr) (cm : Nat), Bs 29 [⟨(kk : Int), (d : Int), A, c, L⟩, ⟨(kk : Int), 0, Am, cm, L1⟩] (us 7) W := hd 7 (by kernel_rfl)
      clear hd hq
      obtain ⟨Am, cm, h7⟩ := h7
      obtain ⟨b7, e7, hs⟩ := h7.hs (by simp)
      rw [e7] at hs
      have e7 : us 7 = .slice (some ⟨b7, 0, none⟩) 2 2 := e7
      refine all_call rfl rfl 11 #[.slice (some ⟨b7, 0, none⟩) 2 2] (by go_simp) ?_
      refine (HMG.out W Am b7 cm hs).mono ?_
      rintro e W' ⟨Aa, ca, Ab, cb, rfl, hLa, hLb, hb⟩
      exact ⟨_, rfl, .inl hb, ⟨Aa, Ab, ca, cb, rfl, hLa, hLb⟩⟩
    | 9, _ =>
      have h8 : Mq o1 o2 o3 (us 8) W := hd 8 (by kernel_rfl)
      clear hd hq
      refine all_value rfl rfl (us 8) W (by go_simp) ?_ ?_
      · exact .inl (Grows.refl _)
      · exact h8
    | 10, _ =>
      have h9 : Mq o1 o2 o3 (us 9) W := hd 9 (by kernel_rfl)
      clear hd hq
      obtain ⟨A', A2, c', c2, e9, hL, hL2⟩ := h9
      refine all_value rfl rfl (.agg #[.int .i64 o1, .int .i64 o2, .slice A' o3.length c']) W (by go_simp) ?_ ?_
      · exact .inl (Grows.refl _)
      · exact ⟨A', c', rfl, hL⟩
    | 11, _ =>
      have h9 : Mq o1 o2 o3 (us 9) W := hd 9 (by kernel_rfl)
      clear hd hq
      obtain ⟨A', A2, c', c2, e9, hL, hL2⟩ := h9
      refine all_value rfl rfl (.agg #[.int .i64 o1, .int .i64 o2, .slice A2 o3.length c2]) W (by go_simp) ?_ ?_
      · exact .inl (Grows.refl _)
      · exact ⟨A2, c2, rfl, hL2⟩
    | 12, _ =>
      have h9 : Mq o1 o2 o3 (us 9) W := hd 9 (by kernel_rfl)
      clear hd hq
      obtain ⟨A', A2, c', c2, e9, hL, hL2⟩ := h9
      refine all_value rfl rfl (.bool true) W (by go_simp) ?_ ?_
      · exact .inl (Grows.refl _)
      · rfl
    | 13, _ =>
      clear hd hq
      refine all_value rfl rfl (.pointer (some ⟨W.heap.size, 0, none⟩)) (W.alloc (.cells #[.int .i64 0, .int .i64 0, .slice none 0 0] 32)) (by go_simp) ?_ ?_
      · exact .inl (Grows.alloc _ _)
      · exact nw3_new hg.size _ _ _
    | 14, _ =>
      clear hd hq
      refine all_value rfl rfl (.pointer (some ⟨W.heap.size, 0, none⟩)) (W.alloc (.cells #[.int .i64 0, .int .i64 0, .slice none 0 0] 29)) (by go_simp) ?_ ?_
      · exact .inl (Grows.alloc _ _)
      · exact nw3_new hg.size _ _ _
    | 15, _ =>
      have h13 : Nw3 32 w6.heap.size (us 13) W := hd 13 (by kernel_rfl)
      have h10 : Hq o1 o2 o3 (us 10) W := hd 10 (by kernel_rfl)
      clear hd hq
      obtain ⟨A', c', e9, hL⟩ := h10
      obtain ⟨p, x0, x1, x2, e11, hp, hblk⟩ := h13
      obtain ⟨q0, q1, q2⟩ := box3 hblk
      have f0 : ∀ i, W.frozen? ⟨p, i, none⟩ = false := fun i => by simp [World.frozen?, hblk]
      have HBK := Lib.hid hblk
      have hlp := lt_of hblk
      clear hblk
      refine all_skip rfl rfl (((W.setCell ⟨p, 0, none⟩ (.int .i64 o1)).setCell ⟨p, 1, none⟩ (.int .i64 o2)).setCell ⟨p, 2, none⟩ (.slice A' o3.length c')) (by go_simp) ?_ ?_
      · exact .inr ⟨32, rfl, by decide, by decide, st3_set hp HBK.out _ _ _⟩
      · exact ⟨p, A', c', e11, hp, set3 HBK.out _ _ _, levs_set3 (by decide) (by decide) HBK.out _ _ _ hL⟩
    | 16, _ =>
      have h14 : Nw3 29 w6.heap.size (us 14) W := hd 14 (by kernel_rfl)
      have h11 : Hq o1 o2 o3 (us 11) W := hd 11 (by kernel_rfl)
      clear hd hq
      obtain ⟨A', c', e9, hL⟩ := h11
      obtain ⟨p, x0, x1, x2, e11, hp, hblk⟩ := h14
      obtain ⟨q0, q1, q2⟩ := box3 hblk
      have f0 : ∀ i, W.frozen? ⟨p, i, none⟩ = false := fun i => by simp [World.frozen?, hblk]
      have HBK := Lib.hid hblk
      have hlp := lt_of hblk
      clear hblk
      refine all_skip rfl rfl (((W.setCell ⟨p, 0, none⟩ (.int .i64 o1)).setCell ⟨p, 1, none⟩ (.int .i64 o2)).setCell ⟨p, 2, none⟩ (.slice A' o3.length c')) (by go_simp) ?_ ?_
      · exact .inr ⟨29, rfl, by decide, by decide, st3_set hp HBK.out _ _ _⟩
      · exact ⟨p, A', c', e11, hp, set3 HBK.out _ _ _, levs_set3 (by decide) (by decide) HBK.out _ _ _ hL⟩
    | 17, _ =>
      have h12 : us 12 = .bool true := hd 12 (by kernel_rfl)
      clear hd hq
      refine all_value rfl rfl (.bool true) W (by go_simp) ?_ ?_
      · exact .inl (Grows.refl _)
      · rfl
    | n + 18, h => exact absurd h (by simp)
  case hendA =>
    intro us W hg hf
    have h15 : Yg 32 w6.heap.size o1 o2 o3 (us 13) W := hf 15 (by simp)
    have h16 : Yg 29 w6.heap.size o1 o2 o3 (us 14) W := hf 16 (by simp)
    have h17 : us 17 = .bool true := hf 17 (by simp)
    clear hf
    obtain ⟨pa, Aa, ca, e13, hpa, hba, hLa⟩ := h15
    obtain ⟨pb, Ab, cb, e14, hpb, hbb, hLb⟩ := h16
    rw [h17, e13, e14]
    rename World => W7
    have hh7 := (hg.block _ (lt_of PH6.out)).trans PH6.out
    have HLA := Lib.hid hLa
    have HLB := Lib.hid hLb
    have HL7 := Lib.hid (HL6.out.grow hg)
    have HW7 := Lib.hid (thn HW6.out hg)
    obtain ⟨M, hM⟩ : ∃ x, o3.length = x := ⟨_, rfl⟩
    rw [hM] at HLA HLB hba hbb
    have HM := Lib.hid hM
    obtain ⟨h0', h1', h2'⟩ := box3 hh7
    obtain ⟨a0', a1', a2'⟩ := box3 hba
    obtain ⟨b0', b1', b2'⟩ := box3 hbb
    have H0 := Lib.hid h0'
    have H1 := Lib.hid h1'
    have H2 := Lib.hid h2'
    have LH := Lib.hid (lt_of hh7)
    have PA0 := Lib.hid a0'
    have PA1 := Lib.hid a1'
    have PA2 := Lib.hid a2'
    have LPA := Lib.hid (lt_of hba)
    have PB0 := Lib.hid b0'
    have PB1 := Lib.hid b1'
    have PB2 := Lib.hid b2'
    have LPB := Lib.hid (lt_of hbb)
    clear hh7 hLa hLb hM h0' h1' h2' a0' a1' a2' b0' b1' b2' hba hbb hg e13 e14 h17 hpa hpb HMA HMG K0 K2 LXX Y0 Y1 Y2 LYH PH6 HL6 HW6
    have CBK : Hid (∀ W : World, Grows W7 W → Calls Try.prog 23 #[.agg #[.int .i64 (kk : Int), .int .i64 (d : Int), .slice A N c]] W fun e w' => e = .returned (.int .i64 (cn : Int)) ∧ Below W.heap.size W w') := by
      intro W hW
      have := buckets_any (kk : Int) (d : Int) L (by have := HST.out.made.len; omega) (by have := HCN.out.1; have := HCN.out.2.2; omega) W A c (by rw [HN.out]; exact (HL7.out.grow hW).reads)
      rw [HCN.out.1, HN.out] at this
      exact this
    have CBD : Hid (∀ W : World, Calls Try.prog 24 #[.int .i64 (kk : Int), .int .i64 (d : Int), .int .u64 (rl : Int)] W fun e w' => e = .returned (.int .i64 (bn : Int)) ∧ W = w') := by
      intro W
      have := rbound_any (kk : Int) (d : Int) rl (by have := HRL.out; omega) W
      rw [HBN.out.1] at this
      exact this
    have CTA : Hid (∀ W : World, Grows W7 W → Calls Try.prog 14 #[.agg #[.int .i64 o1, .int .i64 o2, .slice Aa M ca]] W fun e w' => e = .returned (.int .u64 (tt : Int)) ∧ Below W.heap.size W w') := by
      intro W hW
      have := total_any o1 o2 o3 HOL.out.1 (by have := HOL.out.2; omega) W Aa ca (by rw [HM.out]; exact HLA.out.grow hW)
      rw [HTT.out, HM.out] at this
      exact this
    have CTB : Hid (∀ W : World, Grows W7 W → Calls Try.prog 25 #[.agg #[.int .i64 o1, .int .i64 o2, .slice Ab M cb]] W fun e w' => e = .returned (.int .u64 (tt : Int)) ∧ Below W.heap.size W w') := by
      intro W hW
      have := rtotal_any o1 o2 o3 HOL.out.1 (by have := HOL.out.2; omega) W Ab cb (by rw [HM.out]; exact HLB.out.grow hW)
      rw [HTT.out, HM.out] at this
      exact this
    have CLE : Hid (∀ W : World, Calls Try.prog 26 #[.int .i64 (kk : Int), .int .i64 0] W fun e w' => e = .returned (.int .i64 (kk : Int)) ∧ W = w') := by
      intro W
      have := rLeast_any (kk : Int) 0 (by have := HST.out.k31; omega) W
      rw [show leastI (kk : Int) 0 = (kk : Int) by unfold leastI; rw [if_pos rfl]; omega] at this
      exact this
    have dl : decide (cn ≤ bn) = true := by simpa using HCB.out
    have dl2 : decide ((cn : Int) ≤ (bn : Int)) = true := by simpa using HCB.out
    rcases Nat.lt_or_ge d 4 with hd4 | hd4
    · have e4 : ((d : Int) == 4) = false := by rw [beq_eq_false_iff_ne]; omega
      have ho2 := HOUT.out.2 hd4
      subst ho2
      have hw1 : IntKind.i64.wrap ((d : Int) + 1) = (d : Int) + 1 := IntWalk.i64_in _ (by omega)
      clear hd4
      go_upto_region 7 with (fail)
      refine region_facts0 (fr := ?frB) 49 [31, 32, 33, 34, 35, 36, 37, 38, 39, 40, 41, 42, 43, 44, 45, 46, 47, 48, 49, 50, 51, 52, 53, 54, 55, 56, 57, 58, 59, 60, 61, 62, 63, 64, 65, 66, 67, 68, 69, 70, 71, 72, 73, 74, 75, 76, 77, 78, 79] (fun i v W => match i with
          | 0 => v = .bool true
          | 1 => v = .bool true
          | 2 => v = .bool true
          | 3 => v = .bool true
          | 4 => v = .bool true
          | 5 => v = .agg #[.int .i64 (kk : Int), .int .i64 (d : Int), .slice A N c]
          | 6 => v = .agg #[.int .i64 (kk : Int), .int .i64 (d : Int), .slice A N c]
          | 7 => v = .int .i64 (cn : Int)
          | 8 => v = .pointer (some ⟨bH, 0, none⟩)
          | 9 => v = .int .i64 (kk : Int)
          | 10 => v = .pointer (some ⟨bH, 1, none⟩)
          | 11 => v = .int .i64 (d : Int)
          | 12 => v = .int .u64 (rl : Int)
          | 13 => v = .int .i64 (bn : Int)
          | 14 => v = .bool true
          | 15 => v = .bool true
          | 16 => v = .bool true
          | 17 => v = .pointer (some ⟨bH, 1, none⟩)
          | 18 => v = .int .i64 (d : Int)
          | 19 => v = .bool false
          | 20 => v = .bool false
          | 21 => v = undef
          | 22 => v = undef
          | 23 => v = undef
          | 24 => v = .bool false
          | 25 => v = .bool false
          | 26 => v = .pointer (some ⟨pa, 1, none⟩)
          | 27 => v = .int .i64 ((d : Int) + 1)
          | 28 => v = .pointer (some ⟨bH, 1, none⟩)
          | 29 => v = .int .i64 (d : Int)
          | 30 => v = .int .i64 ((d : Int) + 1)
          | 31 => v = .bool true
          | 32 => v = .bool true
          | 33 => v = .agg #[.int .i64 o1, .int .i64 ((d : Int) + 1), .slice Ab M cb]
          | 34 => v = .int .u64 (tt : Int)
          | 35 => v = .agg #[.int .i64 o1, .int .i64 ((d : Int) + 1), .slice Aa M ca]
          | 36 => v = .int .u64 (tt : Int)
          | 37 => v = .bool true
          | 38 => v = .bool true
          | 39 => v = .bool true
          | 40 => v = .bool true
          | 41 => v = .bool true
          | 42 => v = .pointer (some ⟨bH, 0, none⟩)
          | 43 => v = .int .i64 (kk : Int)
          | 44 => v = .int .i64 (kk : Int)
          | 45 => v = .pointer (some ⟨bH, 0, none⟩)
          | 46 => v = .int .i64 (kk : Int)
          | 47 => v = .bool true
          | 48 => v = .bool true
          | _ => True) rfl ?hBB (by kernel_rfl) (by kernel_rfl) (by kernel_rfl) ?hfrB ?hFB ?hopB ?htailB
      case hBB => kernel_rfl
      case hfrB =>
        intro us
        simp only [putL]
        go_simp
        rfl
      case hFB =>
        intro i v W W' hG h
        match i with
        | 0 => exact h
        | 1 => exact h
        | 2 => exact h
        | 3 => exact h
        | 4 => exact h
        | 5 => exact h
        | 6 => exact h
        | 7 => exact h
        | 8 => exact h
        | 9 => exact h
        | 10 => exact h
        | 11 => exact h
        | 12 => exact h
        | 13 => exact h
        | 14 => exact h
        | 15 => exact h
        | 16 => exact h
        | 17 => exact h
        | 18 => exact h
        | 19 => exact h
        | 20 => exact h
        | 21 => exact h
        | 22 => exact h
        | 23 => exact h
        | 24 => exact h
        | 25 => exact h
        | 26 => exact h
        | 27 => exact h
        | 28 => exact h
        | 29 => exact h
        | 30 => exact h
        | 31 => exact h
        | 32 => exact h
        | 33 => exact h
        | 34 => exact h
        | 35 => exact h
        | 36 => exact h
        | 37 => exact h
        | 38 => exact h
        | 39 => exact h
        | 40 => exact h
        | 41 => exact h
        | 42 => exact h
        | 43 => exact h
        | 44 => exact h
        | 45 => exact h
        | 46 => exact h
        | 47 => exact h
        | 48 => exact h
        | n + 49 => trivial
      case hopB =>
        intro i hi us W2 hG hd
        match i, hi with
        | 0, _ =>
          clear hd
          exact hop_value rfl rfl rfl (v := .bool true) (W' := W2) (by go_simp) (Grows.refl _) rfl
        | 1, _ =>
          have h0 : us 0 = .bool true := hd 0 (by omega) (by kernel_rfl)
          clear hd
          exact hop_value rfl rfl rfl (v := .bool true) (W' := W2) (by go_simp) (Grows.refl _) rfl
        | 2, _ =>
          have h1 : us 1 = .bool true := hd 1 (by omega) (by kernel_rfl)
          clear hd
          rw [h1]
          exact hop_value rfl rfl rfl (v := .bool true) (W' := W2) (by go_simp) (Grows.refl _) rfl
        | 3, _ =>
          have h1 : us 1 = .bool true := hd 1 (by omega) (by kernel_rfl)
          have h2 : us 2 = .bool true := hd 2 (by omega) (by kernel_rfl)
          clear hd
          exact hop_value rfl rfl rfl (v := .bool true) (W' := W2) (by go_simp) (Grows.refl _) rfl
        | 4, _ =>
          have h3 : us 3 = .bool true := hd 3 (by omega) (by kernel_rfl)
          clear hd
          exact hop_value rfl rfl rfl (v := .bool true) (W' := W2) (by go_simp) (Grows.refl _) rfl
        | 5, _ =>
          have h4 : us 4 = .bool true := hd 4 (by omega) (by kernel_rfl)
          clear hd
          rw [h4]
          have q0 := (hG.cell (b := bH) (o := 0) LH.out).trans H0.out
          have q0l := Nat.lt_of_lt_of_le LH.out hG.size
          have q1 := (hG.cell (b := bH) (o := 1) LH.out).trans H1.out
          have q1l := Nat.lt_of_lt_of_le LH.out hG.size
          have q2 := (hG.cell (b := bH) (o := 2) LH.out).trans H2.out
          have q2l := Nat.lt_of_lt_of_le LH.out hG.size
          exact hop_value rfl rfl rfl (v := .agg #[.int .i64 (kk : Int), .int .i64 (d : Int), .slice A N c]) (W' := W2) (by go_simp) (Grows.refl _) rfl
        | 6, _ =>
          have h4 : us 4 = .bool true := hd 4 (by omega) (by kernel_rfl)
          have h5 : us 5 = .agg #[.int .i64 (kk : Int), .int .i64 (d : Int), .slice A N c] := hd 5 (by omega) (by kernel_rfl)
          clear hd
          rw [h4]
          refine hop_call rfl rfl rfl (f := 13) (args := #[.agg #[.int .i64 (kk : Int), .int .i64 (d : Int), .slice A N c]]) (by go_simp) ?_
          refine (lmade_any _ _ _ _ _ W2).mono ?_
          rintro e W' ⟨rfl, hb⟩
          exact ⟨_, rfl, hb, rfl⟩
        | 7, _ =>
          have h4 : us 4 = .bool true := hd 4 (by omega) (by kernel_rfl)
          have h6 : us 6 = .agg #[.int .i64 (kk : Int), .int .i64 (d : Int), .slice A N c] := hd 6 (by omega) (by kernel_rfl)
          clear hd
          rw [h4]
          refine hop_call rfl rfl rfl (f := 23) (args := #[.agg #[.int .i64 (kk : Int), .int .i64 (d : Int), .slice A N c]]) (by go_simp) ?_
          refine (CBK.out W2 hG).mono ?_
          rintro e W' ⟨rfl, hb⟩
          exact ⟨_, rfl, hb, rfl⟩
        | 8, _ =>
          have h4 : us 4 = .bool true := hd 4 (by omega) (by kernel_rfl)
          clear hd
          rw [h4]
          exact hop_value rfl rfl rfl (v := .pointer (some ⟨bH, 0, none⟩)) (W' := W2) (by go_simp) (Grows.refl _) rfl
        | 9, _ =>
          have h4 : us 4 = .bool true := hd 4 (by omega) (by kernel_rfl)
          have h8 : us 8 = .pointer (some ⟨bH, 0, none⟩) := hd 8 (by omega) (by kernel_rfl)
          clear hd
          rw [h4]
          have q := (hG.cell (b := bH) (o := 0) LH.out).trans H0.out
          have ql := Nat.lt_of_lt_of_le LH.out hG.size
          exact hop_value rfl rfl rfl (v := .int .i64 (kk : Int)) (W' := W2) (by go_simp) (Grows.refl _) rfl
        | 10, _ =>
          have h4 : us 4 = .bool true := hd 4 (by omega) (by kernel_rfl)
          clear hd
          rw [h4]
          exact hop_value rfl rfl rfl (v := .pointer (some ⟨bH, 1, none⟩)) (W' := W2) (by go_simp) (Grows.refl _) rfl
        | 11, _ =>
          have h4 : us 4 = .bool true := hd 4 (by omega) (by kernel_rfl)
          have h10 : us 10 = .pointer (some ⟨bH, 1, none⟩) := hd 10 (by omega) (by kernel_rfl)
          clear hd
          rw [h4]
          have q := (hG.cell (b := bH) (o := 1) LH.out).trans H1.out
          have ql := Nat.lt_of_lt_of_le LH.out hG.size
          exact hop_value rfl rfl rfl (v := .int .i64 (d : Int)) (W' := W2) (by go_simp) (Grows.refl _) rfl
        | 12, _ =>
          have h4 : us 4 = .bool true := hd 4 (by omega) (by kernel_rfl)
          clear hd
          rw [h4]
          exact hop_value rfl rfl rfl (v := .int .u64 (rl : Int)) (W' := W2) (by go_simp) (Grows.refl _) rfl
        | 13, _ =>
          have h4 : us 4 = .bool true := hd 4 (by omega) (by kernel_rfl)
          have h9 : us 9 = .int .i64 (kk : Int) := hd 9 (by omega) (by kernel_rfl)
          have h11 : us 11 = .int .i64 (d : Int) := hd 11 (by omega) (by kernel_rfl)
          have h12 : us 12 = .int .u64 (rl : Int) := hd 12 (by omega) (by kernel_rfl)
          clear hd
          rw [h4]
          refine hop_call rfl rfl rfl (f := 24) (args := #[.int .i64 (kk : Int), .int .i64 (d : Int), .int .u64 (rl : Int)]) (by go_simp) ?_
          refine (CBD.out W2).mono ?_
          rintro e W' ⟨rfl, rfl⟩
          exact ⟨_, rfl, Grows.refl _, rfl⟩
        | 14, _ =>
          have h4 : us 4 = .bool true := hd 4 (by omega) (by kernel_rfl)
          have h7 : us 7 = .int .i64 (cn : Int) := hd 7 (by omega) (by kernel_rfl)
          have h13 : us 13 = .int .i64 (bn : Int) := hd 13 (by omega) (by kernel_rfl)
          clear hd
          rw [h4]
          exact hop_value rfl rfl rfl (v := .bool true) (W' := W2) (by go_simp) (Grows.refl _) rfl
        | 15, _ =>
          have h4 : us 4 = .bool true := hd 4 (by omega) (by kernel_rfl)
          have h14 : us 14 = .bool true := hd 14 (by omega) (by kernel_rfl)
          clear hd
          exact hop_value rfl rfl rfl (v := .bool true) (W' := W2) (by go_simp) (Grows.refl _) rfl
        | 16, _ =>
          have h15 : us 15 = .bool true := hd 15 (by omega) (by kernel_rfl)
          clear hd
          exact hop_value rfl rfl rfl (v := .bool true) (W' := W2) (by go_simp) (Grows.refl _) rfl
        | 17, _ =>
          have h16 : us 16 = .bool true := hd 16 (by omega) (by kernel_rfl)
          clear hd
          rw [h16]
          exact hop_value rfl rfl rfl (v := .pointer (some ⟨bH, 1, none⟩)) (W' := W2) (by go_simp) (Grows.refl _) rfl
        | 18, _ =>
          have h16 : us 16 = .bool true := hd 16 (by omega) (by kernel_rfl)
          have h17 : us 17 = .pointer (some ⟨bH, 1, none⟩) := hd 17 (by omega) (by kernel_rfl)
          clear hd
          rw [h16]
          have q := (hG.cell (b := bH) (o := 1) LH.out).trans H1.out
          have ql := Nat.lt_of_lt_of_le LH.out hG.size
          exact hop_value rfl rfl rfl (v := .int .i64 (d : Int)) (W' := W2) (by go_simp) (Grows.refl _) rfl
        | 19, _ =>
          have h16 : us 16 = .bool true := hd 16 (by omega) (by kernel_rfl)
          have h18 : us 18 = .int .i64 (d : Int) := hd 18 (by omega) (by kernel_rfl)
          clear hd
          rw [h16]
          exact hop_value rfl rfl rfl (v := .bool false) (W' := W2) (by go_simp) (Grows.refl _) rfl
        | 20, _ =>
          have h16 : us 16 = .bool true := hd 16 (by omega) (by kernel_rfl)
          have h19 : us 19 = .bool false := hd 19 (by omega) (by kernel_rfl)
          clear hd
          rw [h16]
          exact hop_value rfl rfl rfl (v := .bool false) (W' := W2) (by go_simp) (Grows.refl _) rfl
        | 21, _ =>
          have h20 : us 20 = .bool false := hd 20 (by omega) (by kernel_rfl)
          clear hd
          rw [h20]
          exact hop_off rfl rfl rfl rfl
        | 22, _ =>
          have h20 : us 20 = .bool false := hd 20 (by omega) (by kernel_rfl)
          clear hd
          rw [h20]
          exact hop_off rfl rfl rfl rfl
        | 23, _ =>
          have h20 : us 20 = .bool false := hd 20 (by omega) (by kernel_rfl)
          clear hd
          rw [h20]
          exact hop_off rfl rfl rfl rfl
        | 24, _ =>
          have h16 : us 16 = .bool true := hd 16 (by omega) (by kernel_rfl)
          have h20 : us 20 = .bool false := hd 20 (by omega) (by kernel_rfl)
          clear hd
          rw [h16]
          exact hop_value rfl rfl rfl (v := .bool false) (W' := W2) (by go_simp) (Grows.refl _) rfl
        | 25, _ =>
          have h16 : us 16 = .bool true := hd 16 (by omega) (by kernel_rfl)
          have h24 : us 24 = .bool false := hd 24 (by omega) (by kernel_rfl)
          clear hd
          rw [h16]
          exact hop_value rfl rfl rfl (v := .bool false) (W' := W2) (by go_simp) (Grows.refl _) rfl
        | 26, _ =>
          have h25 : us 25 = .bool false := hd 25 (by omega) (by kernel_rfl)
          clear hd
          rw [h25]
          exact hop_value rfl rfl rfl (v := .pointer (some ⟨pa, 1, none⟩)) (W' := W2) (by go_simp) (Grows.refl _) rfl
        | 27, _ =>
          have h25 : us 25 = .bool false := hd 25 (by omega) (by kernel_rfl)
          have h26 : us 26 = .pointer (some ⟨pa, 1, none⟩) := hd 26 (by omega) (by kernel_rfl)
          clear hd
          rw [h25]
          have q := (hG.cell (b := pa) (o := 1) LPA.out).trans PA1.out
          have ql := Nat.lt_of_lt_of_le LPA.out hG.size
          exact hop_value rfl rfl rfl (v := .int .i64 ((d : Int) + 1)) (W' := W2) (by go_simp) (Grows.refl _) rfl
        | 28, _ =>
          have h25 : us 25 = .bool false := hd 25 (by omega) (by kernel_rfl)
          clear hd
          rw [h25]
          exact hop_value rfl rfl rfl (v := .pointer (some ⟨bH, 1, none⟩)) (W' := W2) (by go_simp) (Grows.refl _) rfl
        | 29, _ =>
          have h25 : us 25 = .bool false := hd 25 (by omega) (by kernel_rfl)
          have h28 : us 28 = .pointer (some ⟨bH, 1, none⟩) := hd 28 (by omega) (by kernel_rfl)
          clear hd
          rw [h25]
          have q := (hG.cell (b := bH) (o := 1) LH.out).trans H1.out
          have ql := Nat.lt_of_lt_of_le LH.out hG.size
          exact hop_value rfl rfl rfl (v := .int .i64 (d : Int)) (W' := W2) (by go_simp) (Grows.refl _) rfl
        | 30, _ =>
          have h25 : us 25 = .bool false := hd 25 (by omega) (by kernel_rfl)
          have h29 : us 29 = .int .i64 (d : Int) := hd 29 (by omega) (by kernel_rfl)
          clear hd
          rw [h25]
          exact hop_value rfl rfl rfl (v := .int .i64 ((d : Int) + 1)) (W' := W2) (by go_simp) (Grows.refl _) rfl
        | 31, _ =>
          have h25 : us 25 = .bool false := hd 25 (by omega) (by kernel_rfl)
          have h27 : us 27 = .int .i64 ((d : Int) + 1) := hd 27 (by omega) (by kernel_rfl)
          have h30 : us 30 = .int .i64 ((d : Int) + 1) := hd 30 (by omega) (by kernel_rfl)
          clear hd
          rw [h25]
          exact hop_value rfl rfl rfl (v := .bool true) (W' := W2) (by go_simp) (Grows.refl _) rfl
        | 32, _ =>
          have h25 : us 25 = .bool false := hd 25 (by omega) (by kernel_rfl)
          have h31 : us 31 = .bool true := hd 31 (by omega) (by kernel_rfl)
          clear hd
          rw [h25]
          exact hop_value rfl rfl rfl (v := .bool true) (W' := W2) (by go_simp) (Grows.refl _) rfl
        | 33, _ =>
          have h32 : us 32 = .bool true := hd 32 (by omega) (by kernel_rfl)
          clear hd
          rw [h32]
          have q0 := (hG.cell (b := pb) (o := 0) LPB.out).trans PB0.out
          have q0l := Nat.lt_of_lt_of_le LPB.out hG.size
          have q1 := (hG.cell (b := pb) (o := 1) LPB.out).trans PB1.out
          have q1l := Nat.lt_of_lt_of_le LPB.out hG.size
          have q2 := (hG.cell (b := pb) (o := 2) LPB.out).trans PB2.out
          have q2l := Nat.lt_of_lt_of_le LPB.out hG.size
          exact hop_value rfl rfl rfl (v := .agg #[.int .i64 o1, .int .i64 ((d : Int) + 1), .slice Ab M cb]) (W' := W2) (by go_simp) (Grows.refl _) rfl
        | 34, _ =>
          have h32 : us 32 = .bool true := hd 32 (by omega) (by kernel_rfl)
          have h33 : us 33 = .agg #[.int .i64 o1, .int .i64 ((d : Int) + 1), .slice Ab M cb] := hd 33 (by omega) (by kernel_rfl)
          clear hd
          rw [h32]
          refine hop_call rfl rfl rfl (f := 25) (args := #[.agg #[.int .i64 o1, .int .i64 ((d : Int) + 1), .slice Ab M cb]]) (by go_simp) ?_
          refine (CTB.out W2 hG).mono ?_
          rintro e W' ⟨rfl, hb⟩
          exact ⟨_, rfl, hb, rfl⟩
        | 35, _ =>
          have h32 : us 32 = .bool true := hd 32 (by omega) (by kernel_rfl)
          clear hd
          rw [h32]
          have q0 := (hG.cell (b := pa) (o := 0) LPA.out).trans PA0.out
          have q0l := Nat.lt_of_lt_of_le LPA.out hG.size
          have q1 := (hG.cell (b := pa) (o := 1) LPA.out).trans PA1.out
          have q1l := Nat.lt_of_lt_of_le LPA.out hG.size
          have q2 := (hG.cell (b := pa) (o := 2) LPA.out).trans PA2.out
          have q2l := Nat.lt_of_lt_of_le LPA.out hG.size
          exact hop_value rfl rfl rfl (v := .agg #[.int .i64 o1, .int .i64 ((d : Int) + 1), .slice Aa M ca]) (W' := W2) (by go_simp) (Grows.refl _) rfl
        | 36, _ =>
          have h32 : us 32 = .bool true := hd 32 (by omega) (by kernel_rfl)
          have h35 : us 35 = .agg #[.int .i64 o1, .int .i64 ((d : Int) + 1), .slice Aa M ca] := hd 35 (by omega) (by kernel_rfl)
          clear hd
          rw [h32]
          refine hop_call rfl rfl rfl (f := 14) (args := #[.agg #[.int .i64 o1, .int .i64 ((d : Int) + 1), .slice Aa M ca]]) (by go_simp) ?_
          refine (CTA.out W2 hG).mono ?_
          rintro e W' ⟨rfl, hb⟩
          exact ⟨_, rfl, hb, rfl⟩
        | 37, _ =>
          have h32 : us 32 = .bool true := hd 32 (by omega) (by kernel_rfl)
          have h34 : us 34 = .int .u64 (tt : Int) := hd 34 (by omega) (by kernel_rfl)
          have h36 : us 36 = .int .u64 (tt : Int) := hd 36 (by omega) (by kernel_rfl)
          clear hd
          rw [h32]
          exact hop_value rfl rfl rfl (v := .bool true) (W' := W2) (by go_simp) (Grows.refl _) rfl
        | 38, _ =>
          have h25 : us 25 = .bool false := hd 25 (by omega) (by kernel_rfl)
          have h32 : us 32 = .bool true := hd 32 (by omega) (by kernel_rfl)
          have h37 : us 37 = .bool true := hd 37 (by omega) (by kernel_rfl)
          clear hd
          rw [h25]
          exact hop_value rfl rfl rfl (v := .bool true) (W' := W2) (by go_simp) (Grows.refl _) rfl
        | 39, _ =>
          have h16 : us 16 = .bool true := hd 16 (by omega) (by kernel_rfl)
          have h25 : us 25 = .bool false := hd 25 (by omega) (by kernel_rfl)
          have h38 : us 38 = .bool true := hd 38 (by omega) (by kernel_rfl)
          clear hd
          rw [h16]
          exact hop_value rfl rfl rfl (v := .bool true) (W' := W2) (by go_simp) (Grows.refl _) rfl
        | 40, _ =>
          have h16 : us 16 = .bool true := hd 16 (by omega) (by kernel_rfl)
          have h39 : us 39 = .bool true := hd 39 (by omega) (by kernel_rfl)
          clear hd
          exact hop_value rfl rfl rfl (v := .bool true) (W' := W2) (by go_simp) (Grows.refl _) rfl
        | 41, _ =>
          have h40 : us 40 = .bool true := hd 40 (by omega) (by kernel_rfl)
          clear hd
          exact hop_value rfl rfl rfl (v := .bool true) (W' := W2) (by go_simp) (Grows.refl _) rfl
        | 42, _ =>
          have h41 : us 41 = .bool true := hd 41 (by omega) (by kernel_rfl)
          clear hd
          rw [h41]
          exact hop_value rfl rfl rfl (v := .pointer (some ⟨bH, 0, none⟩)) (W' := W2) (by go_simp) (Grows.refl _) rfl
        | 43, _ =>
          have h41 : us 41 = .bool true := hd 41 (by omega) (by kernel_rfl)
          have h42 : us 42 = .pointer (some ⟨bH, 0, none⟩) := hd 42 (by omega) (by kernel_rfl)
          clear hd
          rw [h41]
          have q := (hG.cell (b := bH) (o := 0) LH.out).trans H0.out
          have ql := Nat.lt_of_lt_of_le LH.out hG.size
          exact hop_value rfl rfl rfl (v := .int .i64 (kk : Int)) (W' := W2) (by go_simp) (Grows.refl _) rfl
        | 44, _ =>
          have h41 : us 41 = .bool true := hd 41 (by omega) (by kernel_rfl)
          have h43 : us 43 = .int .i64 (kk : Int) := hd 43 (by omega) (by kernel_rfl)
          clear hd
          rw [h41]
          refine hop_call rfl rfl rfl (f := 26) (args := #[.int .i64 (kk : Int), .int .i64 0]) (by go_simp) ?_
          refine (CLE.out W2).mono ?_
          rintro e W' ⟨rfl, rfl⟩
          exact ⟨_, rfl, Grows.refl _, rfl⟩
        | 45, _ =>
          have h41 : us 41 = .bool true := hd 41 (by omega) (by kernel_rfl)
          clear hd
          rw [h41]
          exact hop_value rfl rfl rfl (v := .pointer (some ⟨bH, 0, none⟩)) (W' := W2) (by go_simp) (Grows.refl _) rfl
        | 46, _ =>
          have h41 : us 41 = .bool true := hd 41 (by omega) (by kernel_rfl)
          have h45 : us 45 = .pointer (some ⟨bH, 0, none⟩) := hd 45 (by omega) (by kernel_rfl)
          clear hd
          rw [h41]
          have q := (hG.cell (b := bH) (o := 0) LH.out).trans H0.out
          have ql := Nat.lt_of_lt_of_le LH.out hG.size
          exact hop_value rfl rfl rfl (v := .int .i64 (kk : Int)) (W' := W2) (by go_simp) (Grows.refl _) rfl
        | 47, _ =>
          have h41 : us 41 = .bool true := hd 41 (by omega) (by kernel_rfl)
          have h44 : us 44 = .int .i64 (kk : Int) := hd 44 (by omega) (by kernel_rfl)
          have h46 : us 46 = .int .i64 (kk : Int) := hd 46 (by omega) (by kernel_rfl)
          clear hd
          rw [h41]
          exact hop_value rfl rfl rfl (v := .bool true) (W' := W2) (by go_simp) (Grows.refl _) rfl
        | 48, _ =>
          have h41 : us 41 = .bool true := hd 41 (by omega) (by kernel_rfl)
          have h47 : us 47 = .bool true := hd 47 (by omega) (by kernel_rfl)
          clear hd
          exact hop_value rfl rfl rfl (v := .bool true) (W' := W2) (by go_simp) (Grows.refl _) rfl
        | d + 49, h => exact absurd h (by omega)
      case htailB =>
        intro us W2 hG hf
        have hz : us 48 = .bool true := hf 48 (by omega)
        clear hf
        rw [hz]
        have HG2 := Lib.hid hG
        clear hz hG
        simp only [List.drop_succ_cons, List.drop_zero]
        repeat (go_big_quiet_step (fail))
        refine wpQuiet_nil ?_
        rintro w' ⟨nq, rfl⟩
        have HBX := Lib.hid (below_drewN HG2.out nq)
        clear HG2
        generalize W2.drewN nq = wy at *
        go_wp2
        go_ret
        exact ⟨rfl, thn HW7.out HBX.out⟩
    · have e4 : ((d : Int) == 4) = true := by rw [beq_iff_eq]; have := HST.out.d4; omega
      have e10 : (o1 == 0) = true := by rw [beq_iff_eq]; exact HOUT.out.1 (by have := HST.out.d4; omega)
      clear hd4
      go_upto_region 7 with (fail)
      refine region_facts0 (fr := ?frC) 49 [31, 32, 33, 34, 35, 36, 37, 38, 39, 40, 41, 42, 43, 44, 45, 46, 47, 48, 49, 50, 51, 52, 53, 54, 55, 56, 57, 58, 59, 60, 61, 62, 63, 64, 65, 66, 67, 68, 69, 70, 71, 72, 73, 74, 75, 76, 77, 78, 79] (fun i v W => match i with
          | 0 => v = .bool true
          | 1 => v = .bool true
          | 2 => v = .bool true
          | 3 => v = .bool true
          | 4 => v = .bool true
          | 5 => v = .agg #[.int .i64 (kk : Int), .int .i64 (d : Int), .slice A N c]
          | 6 => v = .agg #[.int .i64 (kk : Int), .int .i64 (d : Int), .slice A N c]
          | 7 => v = .int .i64 (cn : Int)
          | 8 => v = .pointer (some ⟨bH, 0, none⟩)
          | 9 => v = .int .i64 (kk : Int)
          | 10 => v = .pointer (some ⟨bH, 1, none⟩)
          | 11 => v = .int .i64 (d : Int)
          | 12 => v = .int .u64 (rl : Int)
          | 13 => v = .int .i64 (bn : Int)
          | 14 => v = .bool true
          | 15 => v = .bool true
          | 16 => v = .bool true
          | 17 => v = .pointer (some ⟨bH, 1, none⟩)
          | 18 => v = .int .i64 (d : Int)
          | 19 => v = .bool true
          | 20 => v = .bool true
          | 21 => v = .pointer (some ⟨pa, 0, none⟩)
          | 22 => v = .int .i64 o1
          | 23 => v = .bool true
          | 24 => v = .bool true
          | 25 => v = .bool true
          | 26 => v = undef
          | 27 => v = undef
          | 28 => v = undef
          | 29 => v = undef
          | 30 => v = undef
          | 31 => v = undef
          | 32 => v = undef
          | 33 => v = undef
          | 34 => v = undef
          | 35 => v = undef
          | 36 => v = undef
          | 37 => v = undef
          | 38 => v = undef
          | 39 => v = .bool true
          | 40 => v = .bool true
          | 41 => v = .bool true
          | 42 => v = .pointer (some ⟨bH, 0, none⟩)
          | 43 => v = .int .i64 (kk : Int)
          | 44 => v = .int .i64 (kk : Int)
          | 45 => v = .pointer (some ⟨bH, 0, none⟩)
          | 46 => v = .int .i64 (kk : Int)
          | 47 => v = .bool true
          | 48 => v = .bool true
          | _ => True) rfl ?hBC (by kernel_rfl) (by kernel_rfl) (by kernel_rfl) ?hfrC ?hFC ?hopC ?htailC
      case hBC => kernel_rfl
      case hfrC =>
        intro us
        simp only [putL]
        go_simp
        rfl
      case hFC =>
        intro i v W W' hG h
        match i with
        | 0 => exact h
        | 1 => exact h
        | 2 => exact h
        | 3 => exact h
        | 4 => exact h
        | 5 => exact h
        | 6 => exact h
        | 7 => exact h
        | 8 => exact h
        | 9 => exact h
        | 10 => exact h
        | 11 => exact h
        | 12 => exact h
        | 13 => exact h
        | 14 => exact h
        | 15 => exact h
        | 16 => exact h
        | 17 => exact h
        | 18 => exact h
        | 19 => exact h
        | 20 => exact h
        | 21 => exact h
        | 22 => exact h
        | 23 => exact h
        | 24 => exact h
        | 25 => exact h
        | 26 => exact h
        | 27 => exact h
        | 28 => exact h
        | 29 => exact h
        | 30 => exact h
        | 31 => exact h
        | 32 => exact h
        | 33 => exact h
        | 34 => exact h
        | 35 => exact h
        | 36 => exact h
        | 37 => exact h
        | 38 => exact h
        | 39 => exact h
        | 40 => exact h
        | 41 => exact h
        | 42 => exact h
        | 43 => exact h
        | 44 => exact h
        | 45 => exact h
        | 46 => exact h
        | 47 => exact h
        | 48 => exact h
        | n + 49 => trivial
      case hopC =>
        intro i hi us W2 hG hd
        match i, hi with
        | 0, _ =>
          clear hd
          exact hop_value rfl rfl rfl (v := .bool true) (W' := W2) (by go_simp) (Grows.refl _) rfl
        | 1, _ =>
          have h0 : us 0 = .bool true := hd 0 (by omega) (by kernel_rfl)
          clear hd
          exact hop_value rfl rfl rfl (v := .bool true) (W' := W2) (by go_simp) (Grows.refl _) rfl
        | 2, _ =>
          have h1 : us 1 = .bool true := hd 1 (by omega) (by kernel_rfl)
          clear hd
          rw [h1]
          exact hop_value rfl rfl rfl (v := .bool true) (W' := W2) (by go_simp) (Grows.refl _) rfl
        | 3, _ =>
          have h1 : us 1 = .bool true := hd 1 (by omega) (by kernel_rfl)
          have h2 : us 2 = .bool true := hd 2 (by omega) (by kernel_rfl)
          clear hd
          exact hop_value rfl rfl rfl (v := .bool true) (W' := W2) (by go_simp) (Grows.refl _) rfl
        | 4, _ =>
          have h3 : us 3 = .bool true := hd 3 (by omega) (by kernel_rfl)
          clear hd
          exact hop_value rfl rfl rfl (v := .bool true) (W' := W2) (by go_simp) (Grows.refl _) rfl
        | 5, _ =>
          have h4 : us 4 = .bool true := hd 4 (by omega) (by kernel_rfl)
          clear hd
          rw [h4]
          have q0 := (hG.cell (b := bH) (o := 0) LH.out).trans H0.out
          have q0l := Nat.lt_of_lt_of_le LH.out hG.size
          have q1 := (hG.cell (b := bH) (o := 1) LH.out).trans H1.out
          have q1l := Nat.lt_of_lt_of_le LH.out hG.size
          have q2 := (hG.cell (b := bH) (o := 2) LH.out).trans H2.out
          have q2l := Nat.lt_of_lt_of_le LH.out hG.size
          exact hop_value rfl rfl rfl (v := .agg #[.int .i64 (kk : Int), .int .i64 (d : Int), .slice A N c]) (W' := W2) (by go_simp) (Grows.refl _) rfl
        | 6, _ =>
          have h4 : us 4 = .bool true := hd 4 (by omega) (by kernel_rfl)
          have h5 : us 5 = .agg #[.int .i64 (kk : Int), .int .i64 (d : Int), .slice A N c] := hd 5 (by omega) (by kernel_rfl)
          clear hd
          rw [h4]
          refine hop_call rfl rfl rfl (f := 13) (args := #[.agg #[.int .i64 (kk : Int), .int .i64 (d : Int), .slice A N c]]) (by go_simp) ?_
          refine (lmade_any _ _ _ _ _ W2).mono ?_
          rintro e W' ⟨rfl, hb⟩
          exact ⟨_, rfl, hb, rfl⟩
        | 7, _ =>
          have h4 : us 4 = .bool true := hd 4 (by omega) (by kernel_rfl)
          have h6 : us 6 = .agg #[.int .i64 (kk : Int), .int .i64 (d : Int), .slice A N c] := hd 6 (by omega) (by kernel_rfl)
          clear hd
          rw [h4]
          refine hop_call rfl rfl rfl (f := 23) (args := #[.agg #[.int .i64 (kk : Int), .int .i64 (d : Int), .slice A N c]]) (by go_simp) ?_
          refine (CBK.out W2 hG).mono ?_
          rintro e W' ⟨rfl, hb⟩
          exact ⟨_, rfl, hb, rfl⟩
        | 8, _ =>
          have h4 : us 4 = .bool true := hd 4 (by omega) (by kernel_rfl)
          clear hd
          rw [h4]
          exact hop_value rfl rfl rfl (v := .pointer (some ⟨bH, 0, none⟩)) (W' := W2) (by go_simp) (Grows.refl _) rfl
        | 9, _ =>
          have h4 : us 4 = .bool true := hd 4 (by omega) (by kernel_rfl)
          have h8 : us 8 = .pointer (some ⟨bH, 0, none⟩) := hd 8 (by omega) (by kernel_rfl)
          clear hd
          rw [h4]
          have q := (hG.cell (b := bH) (o := 0) LH.out).trans H0.out
          have ql := Nat.lt_of_lt_of_le LH.out hG.size
          exact hop_value rfl rfl rfl (v := .int .i64 (kk : Int)) (W' := W2) (by go_simp) (Grows.refl _) rfl
        | 10, _ =>
          have h4 : us 4 = .bool true := hd 4 (by omega) (by kernel_rfl)
          clear hd
          rw [h4]
          exact hop_value rfl rfl rfl (v := .pointer (some ⟨bH, 1, none⟩)) (W' := W2) (by go_simp) (Grows.refl _) rfl
        | 11, _ =>
          have h4 : us 4 = .bool true := hd 4 (by omega) (by kernel_rfl)
          have h10 : us 10 = .pointer (some ⟨bH, 1, none⟩) := hd 10 (by omega) (by kernel_rfl)
          clear hd
          rw [h4]
          have q := (hG.cell (b := bH) (o := 1) LH.out).trans H1.out
          have ql := Nat.lt_of_lt_of_le LH.out hG.size
          exact hop_value rfl rfl rfl (v := .int .i64 (d : Int)) (W' := W2) (by go_simp) (Grows.refl _) rfl
        | 12, _ =>
          have h4 : us 4 = .bool true := hd 4 (by omega) (by kernel_rfl)
          clear hd
          rw [h4]
          exact hop_value rfl rfl rfl (v := .int .u64 (rl : Int)) (W' := W2) (by go_simp) (Grows.refl _) rfl
        | 13, _ =>
          have h4 : us 4 = .bool true := hd 4 (by omega) (by kernel_rfl)
          have h9 : us 9 = .int .i64 (kk : Int) := hd 9 (by omega) (by kernel_rfl)
          have h11 : us 11 = .int .i64 (d : Int) := hd 11 (by omega) (by kernel_rfl)
          have h12 : us 12 = .int .u64 (rl : Int) := hd 12 (by omega) (by kernel_rfl)
          clear hd
          rw [h4]
          refine hop_call rfl rfl rfl (f := 24) (args := #[.int .i64 (kk : Int), .int .i64 (d : Int), .int .u64 (rl : Int)]) (by go_simp) ?_
          refine (CBD.out W2).mono ?_
          rintro e W' ⟨rfl, rfl⟩
          exact ⟨_, rfl, Grows.refl _, rfl⟩
        | 14, _ =>
          have h4 : us 4 = .bool true := hd 4 (by omega) (by kernel_rfl)
          have h7 : us 7 = .int .i64 (cn : Int) := hd 7 (by omega) (by kernel_rfl)
          have h13 : us 13 = .int .i64 (bn : Int) := hd 13 (by omega) (by kernel_rfl)
          clear hd
          rw [h4]
          exact hop_value rfl rfl rfl (v := .bool true) (W' := W2) (by go_simp) (Grows.refl _) rfl
        | 15, _ =>
          have h4 : us 4 = .bool true := hd 4 (by omega) (by kernel_rfl)
          have h14 : us 14 = .bool true := hd 14 (by omega) (by kernel_rfl)
          clear hd
          exact hop_value rfl rfl rfl (v := .bool true) (W' := W2) (by go_simp) (Grows.refl _) rfl
        | 16, _ =>
          have h15 : us 15 = .bool true := hd 15 (by omega) (by kernel_rfl)
          clear hd
          exact hop_value rfl rfl rfl (v := .bool true) (W' := W2) (by go_simp) (Grows.refl _) rfl
        | 17, _ =>
          have h16 : us 16 = .bool true := hd 16 (by omega) (by kernel_rfl)
          clear hd
          rw [h16]
          exact hop_value rfl rfl rfl (v := .pointer (some ⟨bH, 1, none⟩)) (W' := W2) (by go_simp) (Grows.refl _) rfl
        | 18, _ =>
          have h16 : us 16 = .bool true := hd 16 (by omega) (by kernel_rfl)
          have h17 : us 17 = .pointer (some ⟨bH, 1, none⟩) := hd 17 (by omega) (by kernel_rfl)
          clear hd
          rw [h16]
          have q := (hG.cell (b := bH) (o := 1) LH.out).trans H1.out
          have ql := Nat.lt_of_lt_of_le LH.out hG.size
          exact hop_value rfl rfl rfl (v := .int .i64 (d : Int)) (W' := W2) (by go_simp) (Grows.refl _) rfl
        | 19, _ =>
          have h16 : us 16 = .bool true := hd 16 (by omega) (by kernel_rfl)
          have h18 : us 18 = .int .i64 (d : Int) := hd 18 (by omega) (by kernel_rfl)
          clear hd
          rw [h16]
          exact hop_value rfl rfl rfl (v := .bool true) (W' := W2) (by go_simp) (Grows.refl _) rfl
        | 20, _ =>
          have h16 : us 16 = .bool true := hd 16 (by omega) (by kernel_rfl)
          have h19 : us 19 = .bool true := hd 19 (by omega) (by kernel_rfl)
          clear hd
          rw [h16]
          exact hop_value rfl rfl rfl (v := .bool true) (W' := W2) (by go_simp) (Grows.refl _) rfl
        | 21, _ =>
          have h20 : us 20 = .bool true := hd 20 (by omega) (by kernel_rfl)
          clear hd
          rw [h20]
          exact hop_value rfl rfl rfl (v := .pointer (some ⟨pa, 0, none⟩)) (W' := W2) (by go_simp) (Grows.refl _) rfl
        | 22, _ =>
          have h20 : us 20 = .bool true := hd 20 (by omega) (by kernel_rfl)
          have h21 : us 21 = .pointer (some ⟨pa, 0, none⟩) := hd 21 (by omega) (by kernel_rfl)
          clear hd
          rw [h20]
          have q := (hG.cell (b := pa) (o := 0) LPA.out).trans PA0.out
          have ql := Nat.lt_of_lt_of_le LPA.out hG.size
          exact hop_value rfl rfl rfl (v := .int .i64 o1) (W' := W2) (by go_simp) (Grows.refl _) rfl
        | 23, _ =>
          have h20 : us 20 = .bool true := hd 20 (by omega) (by kernel_rfl)
          have h22 : us 22 = .int .i64 o1 := hd 22 (by omega) (by kernel_rfl)
          clear hd
          rw [h20]
          exact hop_value rfl rfl rfl (v := .bool true) (W' := W2) (by go_simp) (Grows.refl _) rfl
        | 24, _ =>
          have h16 : us 16 = .bool true := hd 16 (by omega) (by kernel_rfl)
          have h20 : us 20 = .bool true := hd 20 (by omega) (by kernel_rfl)
          have h23 : us 23 = .bool true := hd 23 (by omega) (by kernel_rfl)
          clear hd
          rw [h16]
          exact hop_value rfl rfl rfl (v := .bool true) (W' := W2) (by go_simp) (Grows.refl _) rfl
        | 25, _ =>
          have h16 : us 16 = .bool true := hd 16 (by omega) (by kernel_rfl)
          have h24 : us 24 = .bool true := hd 24 (by omega) (by kernel_rfl)
          clear hd
          rw [h16]
          exact hop_value rfl rfl rfl (v := .bool true) (W' := W2) (by go_simp) (Grows.refl _) rfl
        | 26, _ =>
          have h25 : us 25 = .bool true := hd 25 (by omega) (by kernel_rfl)
          clear hd
          rw [h25]
          exact hop_off rfl rfl rfl rfl
        | 27, _ =>
          have h25 : us 25 = .bool true := hd 25 (by omega) (by kernel_rfl)
          clear hd
          rw [h25]
          exact hop_off rfl rfl rfl rfl
        | 28, _ =>
          have h25 : us 25 = .bool true := hd 25 (by omega) (by kernel_rfl)
          clear hd
          rw [h25]
          exact hop_off rfl rfl rfl rfl
        | 29, _ =>
          have h25 : us 25 = .bool true := hd 25 (by omega) (by kernel_rfl)
          clear hd
          rw [h25]
          exact hop_off rfl rfl rfl rfl
        | 30, _ =>
          have h25 : us 25 = .bool true := hd 25 (by omega) (by kernel_rfl)
          clear hd
          rw [h25]
          exact hop_off rfl rfl rfl rfl
        | 31, _ =>
          have h25 : us 25 = .bool true := hd 25 (by omega) (by kernel_rfl)
          clear hd
          rw [h25]
          exact hop_off rfl rfl rfl rfl
        | 32, _ =>
          have h25 : us 25 = .bool true := hd 25 (by omega) (by kernel_rfl)
          clear hd
          rw [h25]
          exact hop_off rfl rfl rfl rfl
        | 33, _ =>
          have h32 : us 32 = undef := hd 32 (by omega) (by kernel_rfl)
          clear hd
          rw [h32]
          exact hop_off rfl rfl rfl rfl
        | 34, _ =>
          have h32 : us 32 = undef := hd 32 (by omega) (by kernel_rfl)
          clear hd
          rw [h32]
          exact hop_off rfl rfl rfl rfl
        | 35, _ =>
          have h32 : us 32 = undef := hd 32 (by omega) (by kernel_rfl)
          clear hd
          rw [h32]
          exact hop_off rfl rfl rfl rfl
        | 36, _ =>
          have h32 : us 32 = undef := hd 32 (by omega) (by kernel_rfl)
          clear hd
          rw [h32]
          exact hop_off rfl rfl rfl rfl
        | 37, _ =>
          have h32 : us 32 = undef := hd 32 (by omega) (by kernel_rfl)
          clear hd
          rw [h32]
          exact hop_off rfl rfl rfl rfl
        | 38, _ =>
          have h25 : us 25 = .bool true := hd 25 (by omega) (by kernel_rfl)
          clear hd
          rw [h25]
          exact hop_off rfl rfl rfl rfl
        | 39, _ =>
          have h16 : us 16 = .bool true := hd 16 (by omega) (by kernel_rfl)
          have h25 : us 25 = .bool true := hd 25 (by omega) (by kernel_rfl)
          clear hd
          rw [h16]
          exact hop_value rfl rfl rfl (v := .bool true) (W' := W2) (by go_simp) (Grows.refl _) rfl
        | 40, _ =>
          have h16 : us 16 = .bool true := hd 16 (by omega) (by kernel_rfl)
          have h39 : us 39 = .bool true := hd 39 (by omega) (by kernel_rfl)
          clear hd
          exact hop_value rfl rfl rfl (v := .bool true) (W' := W2) (by go_simp) (Grows.refl _) rfl
        | 41, _ =>
          have h40 : us 40 = .bool true := hd 40 (by omega) (by kernel_rfl)
          clear hd
          exact hop_value rfl rfl rfl (v := .bool true) (W' := W2) (by go_simp) (Grows.refl _) rfl
        | 42, _ =>
          have h41 : us 41 = .bool true := hd 41 (by omega) (by kernel_rfl)
          clear hd
          rw [h41]
          exact hop_value rfl rfl rfl (v := .pointer (some ⟨bH, 0, none⟩)) (W' := W2) (by go_simp) (Grows.refl _) rfl
        | 43, _ =>
          have h41 : us 41 = .bool true := hd 41 (by omega) (by kernel_rfl)
          have h42 : us 42 = .pointer (some ⟨bH, 0, none⟩) := hd 42 (by omega) (by kernel_rfl)
          clear hd
          rw [h41]
          have q := (hG.cell (b := bH) (o := 0) LH.out).trans H0.out
          have ql := Nat.lt_of_lt_of_le LH.out hG.size
          exact hop_value rfl rfl rfl (v := .int .i64 (kk : Int)) (W' := W2) (by go_simp) (Grows.refl _) rfl
        | 44, _ =>
          have h41 : us 41 = .bool true := hd 41 (by omega) (by kernel_rfl)
          have h43 : us 43 = .int .i64 (kk : Int) := hd 43 (by omega) (by kernel_rfl)
          clear hd
          rw [h41]
          refine hop_call rfl rfl rfl (f := 26) (args := #[.int .i64 (kk : Int), .int .i64 0]) (by go_simp) ?_
          refine (CLE.out W2).mono ?_
          rintro e W' ⟨rfl, rfl⟩
          exact ⟨_, rfl, Grows.refl _, rfl⟩
        | 45, _ =>
          have h41 : us 41 = .bool true := hd 41 (by omega) (by kernel_rfl)
          clear hd
          rw [h41]
          exact hop_value rfl rfl rfl (v := .pointer (some ⟨bH, 0, none⟩)) (W' := W2) (by go_simp) (Grows.refl _) rfl
        | 46, _ =>
          have h41 : us 41 = .bool true := hd 41 (by omega) (by kernel_rfl)
          have h45 : us 45 = .pointer (some ⟨bH, 0, none⟩) := hd 45 (by omega) (by kernel_rfl)
          clear hd
          rw [h41]
          have q := (hG.cell (b := bH) (o := 0) LH.out).trans H0.out
          have ql := Nat.lt_of_lt_of_le LH.out hG.size
          exact hop_value rfl rfl rfl (v := .int .i64 (kk : Int)) (W' := W2) (by go_simp) (Grows.refl _) rfl
        | 47, _ =>
          have h41 : us 41 = .bool true := hd 41 (by omega) (by kernel_rfl)
          have h44 : us 44 = .int .i64 (kk : Int) := hd 44 (by omega) (by kernel_rfl)
          have h46 : us 46 = .int .i64 (kk : Int) := hd 46 (by omega) (by kernel_rfl)
          clear hd
          rw [h41]
          exact hop_value rfl rfl rfl (v := .bool true) (W' := W2) (by go_simp) (Grows.refl _) rfl
        | 48, _ =>
          have h41 : us 41 = .bool true := hd 41 (by omega) (by kernel_rfl)
          have h47 : us 47 = .bool true := hd 47 (by omega) (by kernel_rfl)
          clear hd
          exact hop_value rfl rfl rfl (v := .bool true) (W' := W2) (by go_simp) (Grows.refl _) rfl
        | d + 49, h => exact absurd h (by omega)
      case htailC =>
        intro us W2 hG hf
        have hz : us 48 = .bool true := hf 48 (by omega)
        clear hf
        rw [hz]
        have HG2 := Lib.hid hG
        clear hz hG
        simp only [List.drop_succ_cons, List.drop_zero]
        repeat (go_big_quiet_step (fail))
        refine wpQuiet_nil ?_
        rintro w' ⟨nq, rfl⟩
        have HBX := Lib.hid (below_drewN HG2.out nq)
        clear HG2
        generalize W2.drewN nq = wy at *
        go_wp2
        go_ret
        exact ⟨rfl, thn HW7.out HBX.out⟩

set_option maxRecDepth 100000 in
theorem lifted (os : Os) (started : os.Started) (H : Type) (enc : TypeId × Value → H) :
    ReturnsInHanded {} Try.checked os 7 .any (Rows.replaySmallSpec.pre6 enc Try.prog Try.f7 Rows.replaySmallRow.domain false) (Rows.replaySmallSpec.post enc Try.prog Try.f7 false true false false) := by
  refine returnsInHanded_of_change (C := Try.checked) own started (by kernel_rfl) Try.func7
    (ChangeSpec.witness6 (enc := enc) (C := Try.checked) false ⟨#[], #[.agg #[.int .i64 0, .slice none 0 0, .slice none 0 0, .slice none 0 0, .slice none 0 0, .int .u8 0]], []⟩ 8 (by kernel_rfl) (by kernel_rfl) (by kernel_rfl) (by kernel_rfl)) ?_
  intro W base args ds gs before hval0 hW hcnd _
  have hval : ∀ (j : Nat) t v, Try.f7.params[j]? = some t → args[j]? = some v → Value.okWide Try.prog W .any base t v := hval0
  have hW' := hW
  obtain ⟨p, q, hA0, hV, rfl, hfz, hnd⟩ := hW
  have hA : DataW.TrodAll enc Try.prog W 0 (fun _ => true) true Try.f7.params.toList args.toList ds p := hA0
  rw [Try.params7] at hA hval
  obtain ⟨v0, vs0, d0, ds0, p0, q0, hargs, rfl, rfl, h0, r0⟩ := trodAll_cons hA
  obtain ⟨rfl, rfl, rfl⟩ := trodAll_nil r0
  obtain rfl : args = #[v0] := by cases args; simp_all
  obtain ⟨rfl, rfl⟩ := trodVars_none hV
  have k0 := h0
  have lt0 : ∀ x ∈ p0, x.block < W.heap.size := by obtain ⟨m, hm⟩ := k0; exact DataW.trod_lt m _ _ _ hm
  obtain ⟨a0_0, a0_5, a0, len0, cap0, z0, rfl, w0_0, w0_5, w0⟩ := Op.open_tree (f := 9) (e1 := 31) (e := 72) Try.underlying38 (by kernel_rfl) (by kernel_rfl) (by kernel_rfl) (by kernel_rfl) ⟨rfl, rfl, rfl⟩ ⟨by kernel_rfl, by kernel_rfl, by kernel_rfl⟩ (by kernel_rfl) (by kernel_rfl) (by kernel_rfl) (by kernel_rfl) (hval 0 38 v0 rfl rfl) h0
  clear hA0 hval0
  refine (walk a0_0 a0_5 a0 len0 cap0 z0 W w0_0 w0_5 w0).mono fun e W' ⟨he, bel⟩ => ?_
  subst he
  exact ⟨_, rfl, _, _, _, [], _, [], hW', trodAll_mk1 (shut_bool Try.underlying4 _), (trodAll_cons_mk (Below.trod laidOut (by kernel_rfl) (of_decide_eq_true (by kernel_rfl)) k0 bel lt0) trodAll_mk0), rfl, bel.frame _, fun h => by cases h⟩

theorem over : Rows.replaySmallRow.holds Try.pinned (OpenSpec.ofChange Rows.replaySmallSpec) :=
  OpenClaim.holds_of_wide 7 Try.f7 rfl rfl rfl rfl rfl rfl rfl ⟨rfl, rfl, rfl, rfl, rfl⟩ rfl rfl rfl rfl rfl (by kernel_rfl) Try.func7 (by kernel_rfl)
    (of_decide_eq_true (by kernel_rfl)) (by unfold Func.isWrapper; first | (rw [if_pos (by decide +kernel)]; kernel_rfl) | (rw [if_neg (by decide +kernel)]; exact ⟨rfl, rfl⟩))
    (fun os started H enc _ => lifted os started H enc)

/-- The statement. -/
theorem proved : Rows.ReplaySmallSaid := over
#print axioms proved
end Go.Proofs.Ytpdhkpgnajfobaa.replaySmall
