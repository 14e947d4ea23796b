/-
  'skylight/skylightlaw10.ReplayWith' returns true for every input, and the input reads afterwards as it read before. Conditions: none.
-/
import Derived.Test.YtpdhkpgnajfobaaRows
import Derived.WalkKit
import Derived.ProofKit
import Derived.OpenShut
import Derived.ShutString
import Derived.ChangeOld
import Derived.Below
import Derived.Test.YtpdhkpgnajfobaaJ01
import Derived.Test.YtpdhkpgnajfobaaJ18
namespace Go.Proofs.Ytpdhkpgnajfobaa.replayWith
open Go.Proofs Go.Proofs.Rn Go.Proofs.Op Go.Proofs.Rw Go.Proofs.Lm Go.Proofs.Lh Go.Proofs.Rf
open Go.ChangeShapes Go.WideShapes Go.ChangeAt Go.RowKit
open Go.ChangeMaps (open_string shut_string)
set_option linter.unusedVariables false

theorem own : ownKnob Try.prog.godebug = none := by kernel_rfl
theorem laidOut : laidOutB Try.prog = true := by kernel_rfl

/-- A slice of integers that came in: nil, or a row of cells of its capacity, each fitting its kind. -/
def IsRow (k : IntKind) (w : World) (a : Option Addr) (len cap : Nat) (zs : List Int) : Prop :=
  (a = none ∧ len = 0 ∧ cap = 0 ∧ zs = []) ∨
  ∃ x, a = some x ∧ len ≤ cap ∧ cap ≤ maxLen ∧ zs.length = cap ∧ (∀ i, i < zs.length → w.cell? (x.add i) = some (.int k (zs.getD i 0))) ∧ ∀ n ∈ zs, (Lit.int k n).wf = true

open Go.RowKit Go.Shelf Go.Proofs.Rw Go.Proofs.Lh Go.Proofs.Rf

set_option maxRecDepth 100000 in
set_option maxHeartbeats 4000000 in
theorem walk (a0 : Option Addr) (cap0 : Nat) (ls0 : List (List Rw.Sp)) (a1 : Int) (a2 : Option Addr) (len2 cap2 : Nat) (z2 : Nat → Nat → Int) (w : World) (w0 : Rw.Reads w w.heap.size (.slice a0 ls0.length cap0) ls0) (wb0 : ∀ l ∈ ls0, ∀ y ∈ l, y.1 < 18446744073709551616 ∧ y.2 < 18446744073709551616) (w1 : (Lit.int .i64 a1).wf = true) (w2 : Op.FlatRow [.u64, .u64, .u64] w a2 len2 cap2 z2) :
    Calls Try.prog 8 #[.slice a0 ls0.length cap0, .int .i64 a1, .slice a2 len2 cap2] w fun e w' => e = .returned (.bool true) ∧ Below w.heap.size w w' := by
  obtain ⟨N, hN⟩ : ∃ N, ls0.length = N := ⟨_, rfl⟩
  obtain ⟨evs, hel, hE, hF3⟩ := ev_of_row w2
  have HN := Lib.hid hN
  have HR := Lib.hid w0
  have HWB := Lib.hid wb0
  have HE := Lib.hid hE
  have HF3 := Lib.hid hF3
  have HEL := Lib.hid hel
  rw [hN] at HR ⊢
  clear hN wb0 w0 w2 hE hF3 hel
  go_enter Try.func8, Try.ntmps8
  by_cases h3 : N ≤ 3
  case neg =>
    go_wp2_with (go_at_call 9; refine (awake_any _).mono ?_; rintro e wa ⟨rfl, ha⟩)
    go_ret
    exact ⟨rfl, ha⟩
  by_cases h20 : len2 ≤ 20
  case neg =>
    go_wp2_with (go_at_call 9; refine (awake_any _).mono ?_; rintro e wa ⟨rfl, ha⟩)
    go_ret
    exact ⟨rfl, ha⟩
  go_wp2_with (go_at_call 9; refine (awake_any _).mono ?_; rintro e wa ⟨rfl, ha⟩; have HA := Lib.hid ha; clear ha)
  go_loopw [8, 9, 10] (fun v u p wr => ∃ (j : Nat) (xs ys : List Hx), p = .int .i64 (j : Int) ∧ j ≤ N ∧ xs.length = j ∧ ys.length = j ∧ Hid (xs.map Hx.m = ys.map Hx.m) ∧ Hid (Row 29 wa.heap.size v xs wr) ∧ Hid (Row 32 wa.heap.size u ys wr) ∧ Hid (Below wa.heap.size wa wr)) (fun _ _ p _ => N - (intOf p).toNat)
  case atStart => exact ⟨0, [], [], rfl, Nat.zero_le _, rfl, rfl, Lib.hid rfl, Lib.hid (Row.nil _ _ _), Lib.hid (Row.nil _ _ _), Lib.hid (Below.refl _ _)⟩
  case round =>
    obtain ⟨j, xs, ys, rfl, hj, hxl, hyl, HXY, HO, HM, HBR⟩ := hrel
    obtain ⟨A0, c0, rfl, -, -⟩ := own_form HO.out.own
    obtain ⟨B0, e0, rfl, -, -⟩ := own_form HM.out.own
    rw [hxl] at HO ⊢
    rw [hyl] at HM ⊢
    by_cases hlt : j < N
    · have hjl : j < ls0.length := by rw [HN.out]; exact hlt
      have hbw : Below w.heap.size w wr := thn HA.out HBR.out
      rename World => wo
      obtain ⟨b1, o1, rfl, hb1, -, hc1⟩ := HR.out.at (by omega)
      obtain ⟨Ai, ci, d0, d1, d2, d3⟩ := hc1 j hjl
      have hcell := (hbw.cell (p := ⟨b1, o1 + j, none⟩) hb1).trans d0
      obtain ⟨l, hl⟩ : ∃ l, ls0[j] = l := ⟨_, rfl⟩
      have hwb := HWB.out ls0[j] (List.getElem_mem hjl)
      rw [hl] at d0 d1 d3 hcell hwb
      obtain ⟨nn, hnn⟩ : ∃ n, l.length = n := ⟨_, rfl⟩
      obtain ⟨mm, hmm⟩ : ∃ m, min nn 20 = m := ⟨_, rfl⟩
      rw [hnn] at d0 d1 d3 hcell
      have hmn : mm ≤ nn := by omega
      have hdl : (l.take mm).length = mm := by rw [List.length_take, hnn]; omega
      have hdeed : Deeds w Ai mm ci (l.take mm) := ⟨hdl, by
        have := Lies.take (L := spL) (by rw [hnn]; exact d3) mm ci (by rw [hnn]; exact hmn) (by omega) d2
        exact this, fun x hx => hwb x (List.mem_of_mem_take hx)⟩
      have hma := fun (W : World) (hW : Below wo.heap.size wo W) => gmade_any a1 w1 (l.take mm) W Ai mm ci (hdeed.grow (thn hbw hW))
      have hdn := done_le (l.take mm)
      have hgo := good_play (kOf a1) (kOf_le a1).1 (by have := (kOf_le a1).2; omega) (l.take mm) _ hdn.1 (by omega) 0 (by omega) (by omega)
      obtain ⟨kk, hkk⟩ : ∃ k : Int, ((kOf a1 : Nat) : Int) = k := ⟨_, rfl⟩
      obtain ⟨R, hR⟩ : ∃ R, (play (kOf a1) (l.take mm) (doneN (l.take mm))).2 = R := ⟨_, rfl⟩
      simp only [hkk, hR] at hma hgo
      have lb1 : b1 < wo.heap.size := Nat.lt_of_lt_of_le hb1 hbw.size
      have HLI := Lib.hid lb1
      have HLC := Lib.hid hcell
      have HMA := Lib.hid hma
      have HGO := Lib.hid hgo
      have HMM := Lib.hid hmm
      have hmc : mm ≤ ci := by omega
      clear hc1 d0 d1 d2 d3 hcell hwb hnn hmm hdl hdeed hma hdn hgo hkk hR hl hjl lb1 hbw
      go_upto_region 9 with (fail)
      refine region_all (fr := ?frA) (fun i us W => match i with
          | 0 => us 0 = .int .i64 a1
          | 1 => us 1 = .slice (some ⟨b1, o1, none⟩) N cap0
          | 2 => us 2 = .int .i64 (j : Int)
          | 3 => us 3 = .pointer (some ⟨b1, o1 + j, none⟩)
          | 4 => us 4 = .slice Ai nn ci
          | 5 => us 5 = .slice (some ⟨b1, o1, none⟩) N cap0
          | 6 => us 6 = .int .i64 (j : Int)
          | 7 => us 7 = .pointer (some ⟨b1, o1 + j, none⟩)
          | 8 => us 8 = .slice Ai nn ci
          | 9 => us 9 = .int .i64 (nn : Int)
          | 10 => us 10 = .int .i64 (mm : Int)
          | 11 => us 11 = .slice Ai mm ci
          | 12 => Hp kk R (us 12) W
          | 13 => Nw3 29 wo.heap.size (us 13) W
          | 14 => Yb3 29 wo.heap.size kk R (us 13) W
          | _ => True) (fun j W W' => Ea 29 wo.heap.size 14 j W W') (fun W => Below wo.heap.size wo W) rfl ?hBA ?hfrA ?hlocA ?hstA ?hG0A ?hGA ?hopA ?hendA
      case hBA => kernel_rfl
      case hfrA =>
        intro us
        simp only [List.length_cons, List.length_nil, Nat.zero_add, Nat.reduceAdd, putO, dstO]
        go_simp
        rfl
      case hlocA =>
        intro i us us' W h hf
        match i with
        | 0 =>
          have e0 := h 0 (.inl rfl)
          try dsimp only at hf ⊢
          rw [e0] at hf
          exact hf
        | 1 =>
          have e1 := h 1 (.inl rfl)
          try dsimp only at hf ⊢
          rw [e1] at hf
          exact hf
        | 2 =>
          have e2 := h 2 (.inl rfl)
          try dsimp only at hf ⊢
          rw [e2] at hf
          exact hf
        | 3 =>
          have e3 := h 3 (.inl rfl)
          try dsimp only at hf ⊢
          rw [e3] at hf
          exact hf
        | 4 =>
          have e4 := h 4 (.inl rfl)
          try dsimp only at hf ⊢
          rw [e4] at hf
          exact hf
        | 5 =>
          have e5 := h 5 (.inl rfl)
          try dsimp only at hf ⊢
          rw [e5] at hf
          exact hf
        | 6 =>
          have e6 := h 6 (.inl rfl)
          try dsimp only at hf ⊢
          rw [e6] at hf
          exact hf
        | 7 =>
          have e7 := h 7 (.inl rfl)
          try dsimp only at hf ⊢
          rw [e7] at hf
          exact hf
        | 8 =>
          have e8 := h 8 (.inl rfl)
          try dsimp only at hf ⊢
          rw [e8] at hf
          exact hf
        | 9 =>
          have e9 := h 9 (.inl rfl)
          try dsimp only at hf ⊢
          rw [e9] at hf
          exact hf
        | 10 =>
          have e10 := h 10 (.inl rfl)
          try dsimp only at hf ⊢
          rw [e10] at hf
          exact hf
        | 11 =>
          have e11 := h 11 (.inl rfl)
          try dsimp only at hf ⊢
          rw [e11] at hf
          exact hf
        | 12 =>
          have e12 := h 12 (.inl rfl)
          try dsimp only at hf ⊢
          rw [e12] at hf
          exact hf
        | 13 =>
          have e13 := h 13 (.inl rfl)
          try dsimp only at hf ⊢
          rw [e13] at hf
          exact hf
        | 14 =>
          have e13 := h 13 (.inr (by kernel_rfl))
          try dsimp only at hf ⊢
          rw [e13] at hf
          exact hf
        | n + 15 => trivial
      case hstA =>
        intro i j us W W' hne hw hi hj hE hf
        match i with
        | 0 => exact hf
        | 1 => exact hf
        | 2 => exact hf
        | 3 => exact hf
        | 4 => exact hf
        | 5 => exact hf
        | 6 => exact hf
        | 7 => exact hf
        | 8 => exact hf
        | 9 => exact hf
        | 10 => exact hf
        | 11 => exact hf
        | 12 =>
          exact Hp.ea (by decide) (by decide) hE hf
        | 13 =>
          exact Nw3.ea hE hf
        | 14 =>
          exact Yb3.ea hE (Ne.symm hne) hf
        | n + 15 => trivial
      case hG0A =>
        exact (Below.refl _ wo).drew
      case hGA =>
        intro j W W' hE hg
        exact Ea.below hE hg hg.size
      case hopA =>
        intro i hi us W hg hd hq
        match i, hi with
        | 0, _ =>
          clear hd hq
          refine all_value rfl rfl (.int .i64 a1) W (by go_simp) ?_ ?_
          · exact .inl (Grows.refl _)
          · rfl
        | 1, _ =>
          clear hd hq
          refine all_value rfl rfl (.slice (some ⟨b1, o1, none⟩) N cap0) W (by go_simp) ?_ ?_
          · exact .inl (Grows.refl _)
          · rfl
        | 2, _ =>
          clear hd hq
          refine all_value rfl rfl (.int .i64 (j : Int)) W (by go_simp) ?_ ?_
          · exact .inl (Grows.refl _)
          · rfl
        | 3, _ =>
          have h1 : us 1 = .slice (some ⟨b1, o1, none⟩) N cap0 := hd 1 (by kernel_rfl)
          have h2 : us 2 = .int .i64 (j : Int) := hd 2 (by kernel_rfl)
          clear hd hq
          refine all_value rfl rfl (.pointer (some ⟨b1, o1 + j, none⟩)) W (by go_simp) ?_ ?_
          · exact .inl (Grows.refl _)
          · rfl
        | 4, _ =>
          have h3 : us 3 = .pointer (some ⟨b1, o1 + j, none⟩) := hd 3 (by kernel_rfl)
          clear hd hq
          have qa := (hg.cell (p := ⟨b1, o1 + j, none⟩) HLI.out).trans HLC.out
          refine all_value rfl rfl (.slice Ai nn ci) W (by go_simp) ?_ ?_
          · exact .inl (Grows.refl _)
          · rfl
        | 5, _ =>
          clear hd hq
          refine all_value rfl rfl (.slice (some ⟨b1, o1, none⟩) N cap0) W (by go_simp) ?_ ?_
          · exact .inl (Grows.refl _)
          · rfl
        | 6, _ =>
          clear hd hq
          refine all_value rfl rfl (.int .i64 (j : Int)) W (by go_simp) ?_ ?_
          · exact .inl (Grows.refl _)
          · rfl
        | 7, _ =>
          have h5 : us 5 = .slice (some ⟨b1, o1, none⟩) N cap0 := hd 5 (by kernel_rfl)
          have h6 : us 6 = .int .i64 (j : Int) := hd 6 (by kernel_rfl)
          clear hd hq
          refine all_value rfl rfl (.pointer (some ⟨b1, o1 + j, none⟩)) W (by go_simp) ?_ ?_
          · exact .inl (Grows.refl _)
          · rfl
        | 8, _ =>
          have h7 : us 7 = .pointer (some ⟨b1, o1 + j, none⟩) := hd 7 (by kernel_rfl)
          clear hd hq
          have qa := (hg.cell (p := ⟨b1, o1 + j, none⟩) HLI.out).trans HLC.out
          refine all_value rfl rfl (.slice Ai nn ci) W (by go_simp) ?_ ?_
          · exact .inl (Grows.refl _)
          · rfl
        | 9, _ =>
          have h8 : us 8 = .slice Ai nn ci := hd 8 (by kernel_rfl)
          clear hd hq
          refine all_value rfl rfl (.int .i64 (nn : Int)) W (by go_simp) ?_ ?_
          · exact .inl (Grows.refl _)
          · rfl
        | 10, _ =>
          have h9 : us 9 = .int .i64 (nn : Int) := hd 9 (by kernel_rfl)
          clear hd hq
          refine all_value rfl rfl (.int .i64 (mm : Int)) W (by go_simp; have := HMM.out; omega) ?_ ?_
          · exact .inl (Grows.refl _)
          · rfl
        | 11, _ =>
          have h4 : us 4 = .slice Ai nn ci := hd 4 (by kernel_rfl)
          have h10 : us 10 = .int .i64 (mm : Int) := hd 10 (by kernel_rfl)
          clear hd hq
          refine all_value rfl rfl (.slice Ai mm ci) W (by go_simp) ?_ ?_
          · exact .inl (Grows.refl _)
          · rfl
        | 12, _ =>
          have h0 : us 0 = .int .i64 a1 := hd 0 (by kernel_rfl)
          have h11 : us 11 = .slice Ai mm ci := hd 11 (by kernel_rfl)
          clear hd hq
          refine all_call rfl rfl 10 #[.int .i64 a1, .slice Ai mm ci] (by go_simp) ?_
          exact (HMA.out W hg).mono fun _ W' ⟨A', c', he, hL, hb⟩ => ⟨_, he, .inl hb, ⟨A', c', rfl, hL⟩⟩
        | 13, _ =>
          clear hd hq
          refine all_value rfl rfl (.pointer (some ⟨W.heap.size, 0, none⟩)) (W.alloc (.cells #[.int .i64 0, .int .i64 0, .slice none 0 0] 29)) (by go_simp) ?_ ?_
          · exact .inl (Grows.alloc _ _)
          · exact ⟨W.heap.size, _, _, _, rfl, hg.size, World.alloc_heap_new _ _⟩
        | 14, _ =>
          have h13 : Nw3 29 wo.heap.size (us 13) W := hd 13 (by kernel_rfl)
          have h12 : Hp kk R (us 12) W := hd 12 (by kernel_rfl)
          clear hd hq
          obtain ⟨A', c', e9, hL⟩ := h12
          obtain ⟨p', x0, x1, x2, e11, hp, hblk⟩ := h13
          obtain ⟨q0, q1, q2⟩ := box3 hblk
          have f0 : ∀ i, W.frozen? ⟨p', i, none⟩ = false := fun i => by simp [World.frozen?, hblk]
          have HBK := Lib.hid hblk
          have hlp := lt_of hblk
          clear hblk
          refine all_skip rfl rfl (((W.setCell ⟨p', 0, none⟩ (.int .i64 kk)).setCell ⟨p', 1, none⟩ (.int .i64 0)).setCell ⟨p', 2, none⟩ (.slice A' R.length c')) (by go_simp) ?_ ?_
          · exact .inr ⟨rfl, st3_set hp HBK.out _ _ _⟩
          · exact ⟨p', A', c', e11, hp, set3 HBK.out _ _ _, levs_set3 (by decide) (by decide) HBK.out _ _ _ hL⟩
        | n + 15, h => exact absurd h (by simp)
      case hendA =>
        intro us W hg hf
        have h14 : Yb3 29 wo.heap.size kk R (us 13) W := hf 14 (by simp)
        clear hf
        obtain ⟨p, A', c', e13, hp, hblk, hL⟩ := h14
        rw [e13]
        have HBK := Lib.hid hblk
        have HLV := Lib.hid hL
        have HROW := Lib.hid (HO.out.grow hg)
        have HMOW := Lib.hid (HM.out.grow hg)
        have HBA := Lib.hid (thn HBR.out hg)
        obtain ⟨q0, q1, q2⟩ := box3 hblk
        have f0 : ∀ i, W.frozen? ⟨p, i, none⟩ = false := fun i => by simp [World.frozen?, hblk]
        have lp := lt_of hblk
        have hwaW : wa.heap.size ≤ W.heap.size := HBA.out.size
        have hpo : ∀ b, (Value.slice A0 j c0).ownBlock = some b → b ≠ p := fun b hb e => by
          have := (HO.out.own.lt b hb).2
          omega
        have HPO := Lib.hid hpo
        clear hblk hL hg e13 HMA HLC HLI HMM hpo HO HM HBR
        go_upto_region 11 with (at_builtin; refine wpList_app (L := hxL) 29 _ 40 info_rhist Try.underlying26 rfl (by decide) (by decide) _ rfl _ _ rfl wa.heap.size _ _ xs [⟨kk, 0, A', c', R⟩] _ rfl (World.ownsRow.alloc HROW.out.own _) rfl (lit_hist _ _ _ rfl ⟨kk, 0, A', c', R⟩) (hx_one _) (by simp; omega) (by simp; omega) ?_; intro v' w3 ho3 hg3; have HO3 := Lib.hid (HROW.out.snoc ((Below.refl _ W).alloc (Nat.le_refl _) _) ho3 hg3 (by decide) (by decide) HLV.out HGO.out); have HMO3 := Lib.hid (Row.other (HMOW.out.grow ((Below.refl _ W).alloc (Nat.le_refl _) (.cells #[.int .i64 kk, .int .i64 0, .slice A' R.length c'] 29))) hg3 (Row.ty (HROW.out.grow ((Below.refl _ W).alloc (Nat.le_refl _) _))) (by decide) (by decide) (by decide)); have hp3 := (hg3.block p (by simp; omega) (fun e => HPO.out p e.symm rfl)).trans ((Below.heap_alloc W (.cells #[.int .i64 kk, .int .i64 0, .slice A' R.length c'] 29) p lp).trans HBK.out); have HP3 := Lib.hid hp3; have HB3 := Lib.hid ((HBA.out.alloc HBA.out.size _).grown hg3 (by simp; omega) (fun q hq => (HROW.out.own.lt q hq).1)); have hlv3 := HO3.out.levs ⟨kk, 0, A', c', R⟩ (by simp); have HLV3 := Lib.hid hlv3; obtain ⟨y0, y1, y2⟩ := box3 hp3; have lp3 := lt_of hp3; have hwa3 : wa.heap.size ≤ w3.heap.size := HB3.out.size; clear ho3 hg3 hp3 hlv3)
        clear q0 q1 q2 f0 lp HBK HLV HROW HMOW HBA HPO
        go_wp2_with (first
          | (go_at_call 13; refine (lmade_any kk 0 A' R.length c' _).mono ?_; rintro e w4 ⟨rfl, hb4⟩; have HB4 := Lib.hid hb4; have hwa4 : wa.heap.size ≤ w4.heap.size := Nat.le_trans hwa3 hb4.size; clear hb4)
          | (at_builtin; refine wpList_app (L := hxL) 32 _ 40 info_hist Try.underlying62 rfl (by decide) (by decide) _ rfl _ _ rfl wa.heap.size _ _ ys [⟨kk, 0, A', c', R⟩] _ rfl (World.ownsRow.alloc (HMO3.out.grow HB4.out).own _) rfl (lit_hist _ _ _ rfl ⟨kk, 0, A', c', R⟩) (hx_one _) (by simp; omega) (by simp; omega) ?_; intro v5 w5 ho5 hg5; have HO5 := Lib.hid ((HMO3.out.grow HB4.out).snoc ((Below.refl _ w4).alloc (Nat.le_refl _) _) ho5 hg5 (by decide) (by decide) (HLV3.out.grow HB4.out) HGO.out); have HX5 := Lib.hid (Row.other ((HO3.out.grow HB4.out).grow ((Below.refl _ w4).alloc (Nat.le_refl _) (.cells #[.int .i64 kk, .int .i64 0, .slice A' R.length c'] 32))) hg5 (Row.ty ((HMO3.out.grow HB4.out).grow ((Below.refl _ w4).alloc (Nat.le_refl _) _))) (by decide) (by decide) (by decide)); have HB5 := Lib.hid (((thn HB3.out HB4.out).alloc (by omega) _).grown hg5 (by simp; omega) (fun q hq => ((HMO3.out.grow HB4.out).own.lt q hq).1)); clear ho5 hg5))
        refine ⟨⟨j + 1, xs ++ [⟨kk, 0, A', c', R⟩], ys ++ [⟨kk, 0, A', c', R⟩], by go_num, hlt, by simp [hxl], by simp [hyl], Lib.hid ?_, HX5, HO5, HB5⟩, by simp [intOf]; omega⟩
        rw [List.map_append, List.map_append, HXY.out]
    · have e : j = N := by omega
      subst e
      have hbw : Below w.heap.size w wr := thn HA.out HBR.out
      have hwar : wa.heap.size ≤ wr.heap.size := HBR.out.size
      have hwa0 : w.heap.size ≤ wa.heap.size := HA.out.size
      have hown : ∀ b, (Value.slice B0 j e0).ownBlock = some b → b < wr.heap.size := fun b hb => (HM.out.own.lt b hb).2
      have HOWN := Lib.hid hown
      clear hown
      have hEr := HE.out.grow hbw
      have hsx : Hs wr wr.heap.size (.slice A0 xs.length c0) xs := Row.hs (by rw [hxl]; exact HO.out)
      have hsy : Hs wr wr.heap.size (.slice B0 ys.length e0) ys := Row.hs (by rw [hyl]; exact HM.out)
      have hax : Asked xs evs := ⟨by omega, by have := HEL.out; omega, HF3.out, HO.out.good⟩
      have hay : Asked ys evs := ⟨by omega, by have := HEL.out; omega, HF3.out, HM.out.good⟩
      have hwy := with_any ys evs hay wr B0 a2 e0 cap2 hsy (by rw [HEL.out]; exact hEr)
      have hwx := fun (W : World) (hW : Below wr.heap.size wr W) => r10with_any xs evs hax W A0 a2 c0 cap2 (hsx.grow hW) (by rw [HEL.out]; exact hEr.grow hW)
      have hol := out_len (evs := evs) (ms := ys.map Hx.m) fun m hm => by
        obtain ⟨x, hx, rfl⟩ := List.mem_map.1 hm
        exact HM.out.good x hx
      rw [HEL.out, hyl] at hwy
      rw [HXY.out] at hwx
      simp only [HEL.out, hxl] at hwx
      have hone : ∀ (x : Ev) (k : Nat), evs = [x] → badN evs (ys.map Hx.m) = 0 → kOne (ys.map Hx.m) = (k : Int) → badN [] (ys.map Hx.m ++ [((k : Int), 0, addW k [] x.1 x.2.2)]) = 0 ∧ outM [] (ys.map Hx.m ++ [((k : Int), 0, addW k [] x.1 x.2.2)]) = outM evs (ys.map Hx.m) ∧ 1 ≤ x.2.2 ∧ x.1 ≤ 9223372036854775807 ∧ x.2.2 ≤ 4503599627370496 := by
        intro x k e hb hk
        subst e
        exact with_one hb hk
      have hok : badN evs (ys.map Hx.m) = 0 → ∃ k : Nat, 2 ≤ k ∧ k ≤ 1024 ∧ kOne (ys.map Hx.m) = (k : Int) ∧ (outM evs (ys.map Hx.m)).1 = (k : Int) := by
        intro hb
        obtain ⟨m, hm, e⟩ := kOne_mem (badN_zero hb).1
        obtain ⟨x, hx, rfl⟩ := List.mem_map.1 hm
        have hg := HM.out.good x hx
        refine ⟨(kOne (ys.map Hx.m)).toNat, by rw [← e]; exact hg.made.k2, by rw [← e]; exact hg.made.k1, ?_, ?_⟩
        · rw [← e, Int.toNat_of_nonneg hg.pos]
        · unfold outM
          rw [if_pos hb, ← e, Int.toNat_of_nonneg hg.pos]
      obtain ⟨ms, hms⟩ : ∃ ms, ys.map Hx.m = ms := ⟨_, rfl⟩
      rw [hms] at hwy
      simp only [hms] at hwx hone hok hol
      unfold WithP at hwy hwx
      obtain ⟨o, ho⟩ : ∃ o, outM evs ms = o := ⟨_, rfl⟩
      obtain ⟨C, hC⟩ : ∃ C, badN evs ms = C := ⟨_, rfl⟩
      rw [ho, hC] at hwy
      rw [ho] at hol
      simp only [ho, hC] at hwx hone hok
      obtain ⟨k1, k2, o3⟩ := o
      dsimp only at hwy hwx hol hok
      have hsame : ∀ (W : World) (A1 A2 : Option Addr) (c1 c2 : Nat), Levs W W.heap.size (.slice A1 o3.length c1) o3 → Levs W W.heap.size (.slice A2 o3.length c2) o3 → Calls Try.prog 30 #[.agg #[.int .i64 k1, .int .i64 k2, .slice A1 o3.length c1], .agg #[.int .i64 k1, .int .i64 k2, .slice A2 o3.length c2]] W fun e w' => e = .returned (.bool true) ∧ Below W.heap.size W w' := by
        intro W A1 A2 c1 c2 h1 h2
        have := lsame_any k1 k2 k1 k2 o3 o3 (by have := hol.1; omega) (fun i => Nat.le_trans (hol.2.1 i) (by omega)) W A1 A2 c1 c2 h1 h2
        rw [show sameB k1 k2 k1 k2 o3 o3 = true by simp [sameB]] at this
        exact this
      have hsam2 : ∀ (W : World) (A1 A2 : Option Addr) (c1 c2 : Nat), Levs W W.heap.size (.slice A1 o3.length c1) o3 → Levs W W.heap.size (.slice A2 o3.length c2) o3 → Calls Try.prog 16 #[.agg #[.int .i64 k1, .int .i64 k2, .slice A1 o3.length c1], .agg #[.int .i64 k1, .int .i64 k2, .slice A2 o3.length c2]] W fun e w' => e = .returned (.bool true) ∧ Below W.heap.size W w' := by
        intro W A1 A2 c1 c2 h1 h2
        have := hsame_any k1 k2 k1 k2 o3 o3 (by have := hol.1; omega) (fun i => Nat.le_trans (hol.2.1 i) (by omega)) W A1 A2 c1 c2 h1 h2
        rw [show sameB k1 k2 k1 k2 o3 o3 = true by simp [sameB]] at this
        exact this
      have HWY := Lib.hid hwy
      have HWX := Lib.hid hwx
      have HONE := Lib.hid hone
      have HOK := Lib.hid hok
      have HSM := Lib.hid hsame
      have HS2 := Lib.hid hsam2
      have HBW := Lib.hid hbw
      have HER := Lib.hid hEr
      have HMS := Lib.hid hms
      clear hwy hwx hone hok hsame hsam2 hbw hEr hsx hsy hax hay hol hms ho hC HO HXY HA HBR HE HR HWB HN hlt
      go_upto_region 13 with (go_at_call 27; refine HWY.out.mono ?_; rintro e w2 ⟨A1, c1, rfl, hL2, hb2⟩; have HL2 := Lib.hid hL2; have HB2 := Lib.hid hb2; clear hL2 hb2)
      obtain ⟨Wa, hWa⟩ : ∃ W, w2.alloc (.cells #[.int .i64 k1, .int .i64 k2, .slice A1 o3.length c1] 32) = W := ⟨_, rfl⟩
      have ba : Below w2.heap.size w2 Wa := by rw [← hWa]; exact (Below.refl _ w2).alloc (Nat.le_refl _) _
      have pA : Wa.heap[w2.heap.size]? = some (.cells #[.int .i64 k1, .int .i64 k2, .slice A1 o3.length c1] 32) := by rw [← hWa]; exact heap_alloc_new w2 _
      rw [hWa]
      have HLA := Lib.hid (HL2.out.grow ba)
      have HPA := Lib.hid pA
      have HBA := Lib.hid (thn HB2.out ba)
      have hwpa : wr.heap.size ≤ w2.heap.size := HB2.out.size
      obtain ⟨pa, hpa⟩ : ∃ p, w2.heap.size = p := ⟨_, rfl⟩
      rw [hpa] at HPA hwpa ⊢
      clear ba pA hWa HL2 HB2 hpa HWY
      go_upto_region 14 with (go_at_call 28; refine (HWX.out _ HBA.out).mono ?_; rintro e w3 ⟨A2, c2, rfl, hL3, hb3⟩; have HL3 := Lib.hid hL3; have HB3 := Lib.hid hb3; clear hL3 hb3)
      obtain ⟨Wb, hWb⟩ : ∃ W, w3.alloc (.cells #[.int .i64 k1, .int .i64 k2, .slice A2 o3.length c2] 29) = W := ⟨_, rfl⟩
      have bb : Below w3.heap.size w3 Wb := by rw [← hWb]; exact (Below.refl _ w3).alloc (Nat.le_refl _) _
      have pB : Wb.heap[w3.heap.size]? = some (.cells #[.int .i64 k1, .int .i64 k2, .slice A2 o3.length c2] 29) := by rw [← hWb]; exact heap_alloc_new w3 _
      rw [hWb]
      have brb := thn HB3.out bb
      have p1 := (brb.block _ (lt_of HPA.out)).trans HPA.out
      obtain ⟨x0, x1, x2⟩ := box3 p1
      obtain ⟨y0, y1, y2⟩ := box3 pB
      have la := lt_of p1
      have lb := lt_of pB
      have HP1 := Lib.hid p1
      have HPB := Lib.hid pB
      have HLA2 := Lib.hid (HLA.out.grow brb)
      have HLB2 := Lib.hid (HL3.out.grow bb)
      have HB4 := Lib.hid (thn HBA.out brb)
      have hwpb : wr.heap.size ≤ w3.heap.size := Nat.le_trans HBA.out.size HB3.out.size
      have hwab : wa.heap.size ≤ Wb.heap.size := Nat.le_trans hwar HB4.out.size
      obtain ⟨pb, hpb⟩ : ∃ p, w3.heap.size = p := ⟨_, rfl⟩
      rw [hpb] at y0 y1 y2 lb HPB hwpb ⊢
      clear bb pB hWb brb p1 HL3 HB3 hpb HLA HPA HBA HWX
      by_cases hC0 : C = 0
      case neg =>
        have hcc : ((C : Int) == 0) = false := by rw [beq_eq_false_iff_ne]; omega
        go_wp2_with (go_at_call 30; refine (HSM.out _ _ _ _ _ HLA2.out HLB2.out).mono ?_; rintro e w5 ⟨rfl, hb5⟩; have HB5 := Lib.hid hb5; clear hb5)
        go_ret
        exact ⟨rfl, thn HBW.out (thn HB4.out HB5.out)⟩
      subst hC0
      by_cases hl1 : len2 = 1
      case neg =>
        have hcc : ((len2 : Int) == 1) = false := by rw [beq_eq_false_iff_ne]; omega
        go_wp2_with (go_at_call 30; refine (HSM.out _ _ _ _ _ HLA2.out HLB2.out).mono ?_; rintro e w5 ⟨rfl, hb5⟩; have HB5 := Lib.hid hb5; clear hb5)
        go_ret
        exact ⟨rfl, thn HBW.out (thn HB4.out HB5.out)⟩
      subst hl1
      obtain ⟨x, hx⟩ : ∃ x, evs = [x] := by
        have := HEL.out
        match evs, this with
        | [x], _ => exact ⟨x, rfl⟩
      obtain ⟨kk, hk2, hk1, hkm, hkk⟩ := HOK.out rfl
      subst hkk
      obtain ⟨hq1, hq2, hq3, hq4, hq5⟩ := HONE.out x kk hx rfl hkm
      obtain ⟨be, oe, rfl, hbe, -, hce⟩ := ev_at HER.out (by rw [hx]; simp)
      obtain ⟨z0, -, z2⟩ := hce 0 (by rw [hx]; simp)
      simp only [hx, List.getElem_cons_zero, Nat.zero_mul, Nat.add_zero] at z0 z2
      have hgone := made_one hk2 hk1 hq3 hq4 hq5
      obtain ⟨tk, htk⟩ : ∃ t, x.1 = t := ⟨_, rfl⟩
      obtain ⟨wt, hwt⟩ : ∃ t, x.2.2 = t := ⟨_, rfl⟩
      rw [htk] at z0 hq4
      rw [hwt] at z2 hq3 hq5
      rw [htk, hwt] at hq1 hq2 hgone
      obtain ⟨R, hR⟩ : ∃ R, addW kk [] tk wt = R := ⟨_, rfl⟩
      rw [hR] at hq1 hq2 hgone
      have hadd : ∀ W, Below Wb.heap.size Wb W → Calls Try.prog 29 #[.agg #[.int .i64 (kk : Int), .int .i64 0, .slice none 0 0], .int .u64 (tk : Int), .int .u64 (wt : Int)] W fun e w' => ∃ A' c', e = .returned (.tuple #[.agg #[.int .i64 (kk : Int), .int .i64 0, .slice A' R.length c'], .int .i64 0]) ∧ Levs w' w'.heap.size (.slice A' R.length c') R ∧ Below W.heap.size W w' := by
        intro W hW
        have := add_ok kk 0 [] (Made.nil hk2 hk1) tk wt (by omega) (code_one hq3 hq4 hq5) W none 0 Levs.nil
        rw [hR] at this
        refine this.mono ?_
        rintro e w' ⟨v, rfl, hLv, hbv⟩
        obtain ⟨A', c', rfl, -, -, hLv'⟩ := hLv.form
        exact ⟨A', c', rfl, hLv', hbv⟩
      have hmg : ∀ (W : World) (A' B' : Option Addr) (c' e' : Nat), Hs W W.heap.size (.slice B' (j + 1) e') (ys ++ [⟨kk, 0, A', c', R⟩]) → Calls Try.prog 15 #[.slice B' (j + 1) e'] W fun e w' => ∃ A3 c3, e = .returned (.tuple #[.agg #[.int .i64 (kk : Int), .int .i64 k2, .slice A3 o3.length c3], .int .i64 0]) ∧ Levs w' w'.heap.size (.slice A3 o3.length c3) o3 ∧ Below W.heap.size W w' := by
        intro W A' B' c' e' hs
        have hl : (ys ++ [(⟨kk, 0, A', c', R⟩ : Hx)]).length = j + 1 := by simp [hyl]
        have hm : (ys ++ [(⟨kk, 0, A', c', R⟩ : Hx)]).map Hx.m = ms ++ [((kk : Int), 0, R)] := by rw [List.map_append, HMS.out]; rfl
        have hmm := merge_any (ys ++ [⟨kk, 0, A', c', R⟩]) ⟨by rw [hl]; omega, by simp, (by intro e he; cases he), by
          intro y hy
          rcases List.mem_append.1 hy with hy | hy
          · exact HM.out.good y hy
          · rw [List.mem_singleton.1 hy]
            exact hgone⟩ W B' e' (by rw [hl]; exact hs)
        rw [hl] at hmm
        unfold WithP at hmm
        rw [hm, hq1, hq2] at hmm
        refine hmm.mono ?_
        rintro e w' ⟨A3, c3, he, hL, hb⟩
        exact ⟨A3, c3, he, hL, hb⟩
      have z0' := (HB4.out.cell (p := ⟨be, oe, none⟩) hbe).trans z0
      have z2' := (HB4.out.cell (p := ⟨be, oe + 2, none⟩) hbe).trans z2
      have lbe : be < Wb.heap.size := Nat.lt_of_lt_of_le hbe HB4.out.size
      have HLD := Lib.hid lbe
      have HD0 := Lib.hid z0'
      have HD1 := Lib.hid z2'
      have HLP := Lib.hid la
      have HKA := Lib.hid x0
      have HADD := Lib.hid hadd
      have HMG := Lib.hid hmg
      have HM4 := Lib.hid (HM.out.grow HB4.out)
      have HGD := Lib.hid hgone
      have HBWb := Lib.hid (thn HBW.out HB4.out)
      have HWA := Lib.hid hwa0
      clear hce z0 z2 z0' z2' lbe hadd hmg hq1 hq2 hq3 hq4 hq5 htk hwt hR hgone hkm HONE HOK x0 x1 x2 y0 y1 y2 la lb HM HER HMS HBW HB4
      go_upto_region 15 with (fail)
      refine region_all (fr := ?frB) (fun i us W => match i with
          | 0 => us 0 = .pointer (some ⟨pa, 0, none⟩)
          | 1 => us 1 = .int .i64 (kk : Int)
          | 2 => us 2 = .agg #[.int .i64 (kk : Int), .int .i64 0, .slice none 0 0]
          | 3 => us 3 = .slice (some ⟨be, oe, none⟩) 1 cap2
          | 4 => us 4 = .pointer (some ⟨be, oe, none⟩)
          | 5 => us 5 = .pointer (some ⟨be, oe, none⟩)
          | 6 => us 6 = .int .u64 (tk : Int)
          | 7 => us 7 = .slice (some ⟨be, oe, none⟩) 1 cap2
          | 8 => us 8 = .pointer (some ⟨be, oe, none⟩)
          | 9 => us 9 = .pointer (some ⟨be, oe + 2, none⟩)
          | 10 => us 10 = .int .u64 (wt : Int)
          | 11 => Tp kk 0 R (us 11) W
          | 12 => Tp kk 0 R (us 12) W
          | 13 => Hp kk R (us 13) W
          | 14 => us 14 = .int .i64 0
          | 15 => Nw3 32 Wb.heap.size (us 15) W
          | 16 => Yb3 32 Wb.heap.size kk R (us 15) W
          | 17 => us 17 = .int .i64 0
          | _ => True) (fun j W W' => Ea 32 Wb.heap.size 16 j W W') (fun W => Below Wb.heap.size Wb W) rfl ?hBB ?hfrB ?hlocB ?hstB ?hG0B ?hGB ?hopB ?hendB
      case hBB => kernel_rfl
      case hfrB =>
        intro us
        simp only [List.length_cons, List.length_nil, Nat.zero_add, Nat.reduceAdd, putO, dstO]
        go_simp
        rfl
      case hlocB =>
        intro i us us' W h hf
        match i with
        | 0 =>
          have e0 := h 0 (.inl rfl)
          try dsimp only at hf ⊢
          rw [e0] at hf
          exact hf
        | 1 =>
          have e1 := h 1 (.inl rfl)
          try dsimp only at hf ⊢
          rw [e1] at hf
          exact hf
        | 2 =>
          have e2 := h 2 (.inl rfl)
          try dsimp only at hf ⊢
          rw [e2] at hf
          exact hf
        | 3 =>
          have e3 := h 3 (.inl rfl)
          try dsimp only at hf ⊢
          rw [e3] at hf
          exact hf
        | 4 =>
          have e4 := h 4 (.inl rfl)
          try dsimp only at hf ⊢
          rw [e4] at hf
          exact hf
        | 5 =>
          have e5 := h 5 (.inl rfl)
          try dsimp only at hf ⊢
          rw [e5] at hf
          exact hf
        | 6 =>
          have e6 := h 6 (.inl rfl)
          try dsimp only at hf ⊢
          rw [e6] at hf
          exact hf
        | 7 =>
          have e7 := h 7 (.inl rfl)
          try dsimp only at hf ⊢
          rw [e7] at hf
          exact hf
        | 8 =>
          have e8 := h 8 (.inl rfl)
          try dsimp only at hf ⊢
          rw [e8] at hf
          exact hf
        | 9 =>
          have e9 := h 9 (.inl rfl)
          try dsimp only at hf ⊢
          rw [e9] at hf
          exact hf
        | 10 =>
          have e10 := h 10 (.inl rfl)
          try dsimp only at hf ⊢
          rw [e10] at hf
          exact hf
        | 11 =>
          have e11 := h 11 (.inl rfl)
          try dsimp only at hf ⊢
          rw [e11] at hf
          exact hf
        | 12 =>
          have e12 := h 12 (.inl rfl)
          try dsimp only at hf ⊢
          rw [e12] at hf
          exact hf
        | 13 =>
          have e13 := h 13 (.inl rfl)
          try dsimp only at hf ⊢
          rw [e13] at hf
          exact hf
        | 14 =>
          have e14 := h 14 (.inl rfl)
          try dsimp only at hf ⊢
          rw [e14] at hf
          exact hf
        | 15 =>
          have e15 := h 15 (.inl rfl)
          try dsimp only at hf ⊢
          rw [e15] at hf
          exact hf
        | 16 =>
          have e15 := h 15 (.inr (by kernel_rfl))
          try dsimp only at hf ⊢
          rw [e15] at hf
          exact hf
        | 17 =>
          have e17 := h 17 (.inl rfl)
          try dsimp only at hf ⊢
          rw [e17] at hf
          exact hf
        | n + 18 => trivial
      case hstB =>
        intro i j us W W' hne hw hi hj hE hf
        match i with
        | 0 => exact hf
        | 1 => exact hf
        | 2 => exact hf
        | 3 => exact hf
        | 4 => exact hf
        | 5 => exact hf
        | 6 => exact hf
        | 7 => exact hf
        | 8 => exact hf
        | 9 => exact hf
        | 10 => exact hf
        | 11 =>
          exact Tp.ea (by decide) (by decide) hE hf
        | 12 =>
          exact Tp.ea (by decide) (by decide) hE hf
        | 13 =>
          exact Hp.ea (by decide) (by decide) hE hf
        | 14 => exact hf
        | 15 =>
          exact Nw3.ea hE hf
        | 16 =>
          exact Yb3.ea hE (Ne.symm hne) hf
        | 17 => exact hf
        | n + 18 => trivial
      case hG0B =>
        exact (Below.refl _ Wb).drew
      case hGB =>
        intro j W W' hE hg
        exact Ea.below hE hg hg.size
      case hopB =>
        intro i hi us W hg hd hq
        match i, hi with
        | 0, _ =>
          clear hd hq
          refine all_value rfl rfl (.pointer (some ⟨pa, 0, none⟩)) W (by go_simp) ?_ ?_
          · exact .inl (Grows.refl _)
          · rfl
        | 1, _ =>
          have h0 : us 0 = .pointer (some ⟨pa, 0, none⟩) := hd 0 (by kernel_rfl)
          clear hd hq
          have qa := (hg.cell (p := ⟨pa, 0, none⟩) HLP.out).trans HKA.out
          refine all_value rfl rfl (.int .i64 (kk : Int)) W (by go_simp) ?_ ?_
          · exact .inl (Grows.refl _)
          · rfl
        | 2, _ =>
          have h1 : us 1 = .int .i64 (kk : Int) := hd 1 (by kernel_rfl)
          clear hd hq
          refine all_value rfl rfl (.agg #[.int .i64 (kk : Int), .int .i64 0, .slice none 0 0]) W (by go_simp) ?_ ?_
          · exact .inl (Grows.refl _)
          · rfl
        | 3, _ =>
          clear hd hq
          refine all_value rfl rfl (.slice (some ⟨be, oe, none⟩) 1 cap2) W (by go_simp) ?_ ?_
          · exact .inl (Grows.refl _)
          · rfl
        | 4, _ =>
          have h3 : us 3 = .slice (some ⟨be, oe, none⟩) 1 cap2 := hd 3 (by kernel_rfl)
          clear hd hq
          refine all_value rfl rfl (.pointer (some ⟨be, oe, none⟩)) W (by go_simp) ?_ ?_
          · exact .inl (Grows.refl _)
          · rfl
        | 5, _ =>
          have h4 : us 4 = .pointer (some ⟨be, oe, none⟩) := hd 4 (by kernel_rfl)
          clear hd hq
          refine all_value rfl rfl (.pointer (some ⟨be, oe, none⟩)) W (by go_simp) ?_ ?_
          · exact .inl (Grows.refl _)
          · rfl
        | 6, _ =>
          have h5 : us 5 = .pointer (some ⟨be, oe, none⟩) := hd 5 (by kernel_rfl)
          clear hd hq
          have qa := (hg.cell (p := ⟨be, oe, none⟩) HLD.out).trans HD0.out
          refine all_value rfl rfl (.int .u64 (tk : Int)) W (by go_simp) ?_ ?_
          · exact .inl (Grows.refl _)
          · rfl
        | 7, _ =>
          clear hd hq
          refine all_value rfl rfl (.slice (some ⟨be, oe, none⟩) 1 cap2) W (by go_simp) ?_ ?_
          · exact .inl (Grows.refl _)
          · rfl
        | 8, _ =>
          have h7 : us 7 = .slice (some ⟨be, oe, none⟩) 1 cap2 := hd 7 (by kernel_rfl)
          clear hd hq
          refine all_value rfl rfl (.pointer (some ⟨be, oe, none⟩)) W (by go_simp) ?_ ?_
          · exact .inl (Grows.refl _)
          · rfl
        | 9, _ =>
          have h8 : us 8 = .pointer (some ⟨be, oe, none⟩) := hd 8 (by kernel_rfl)
          clear hd hq
          refine all_value rfl rfl (.pointer (some ⟨be, oe + 2, none⟩)) W (by go_simp) ?_ ?_
          · exact .inl (Grows.refl _)
          · rfl
        | 10, _ =>
          have h9 : us 9 = .pointer (some ⟨be, oe + 2, none⟩) := hd 9 (by kernel_rfl)
          clear hd hq
          have qa := (hg.cell (p := ⟨be, oe + 2, none⟩) HLD.out).trans HD1.out
          refine all_value rfl rfl (.int .u64 (wt : Int)) W (by go_simp) ?_ ?_
          · exact .inl (Grows.refl _)
          · rfl
        | 11, _ =>
          have h2 : us 2 = .agg #[.int .i64 (kk : Int), .int .i64 0, .slice none 0 0] := hd 2 (by kernel_rfl)
          have h6 : us 6 = .int .u64 (tk : Int) := hd 6 (by kernel_rfl)
          have h10 : us 10 = .int .u64 (wt : Int) := hd 10 (by kernel_rfl)
          clear hd hq
          refine all_call rfl rfl 29 #[.agg #[.int .i64 (kk : Int), .int .i64 0, .slice none 0 0], .int .u64 (tk : Int), .int .u64 (wt : Int)] (by go_simp) ?_
          exact (HADD.out W hg).mono fun _ W' ⟨A', c', he, hL, hb⟩ => ⟨_, he, .inl hb, ⟨A', c', rfl, hL⟩⟩
        | 12, _ =>
          have h11 : Tp kk 0 R (us 11) W := hd 11 (by kernel_rfl)
          clear hd hq
          refine all_value rfl rfl (us 11) W (by go_simp) ?_ ?_
          · exact .inl (Grows.refl _)
          · exact h11
        | 13, _ =>
          have h12 : Tp kk 0 R (us 12) W := hd 12 (by kernel_rfl)
          clear hd hq
          obtain ⟨A', c', e8, hL⟩ := h12
          refine all_value rfl rfl (.agg #[.int .i64 (kk : Int), .int .i64 0, .slice A' R.length c']) W (by go_simp) ?_ ?_
          · exact .inl (Grows.refl _)
          · exact ⟨A', c', rfl, hL⟩
        | 14, _ =>
          have h12 : Tp kk 0 R (us 12) W := hd 12 (by kernel_rfl)
          clear hd hq
          obtain ⟨A', c', e8, hL⟩ := h12
          refine all_value rfl rfl (.int .i64 0) W (by go_simp) ?_ ?_
          · exact .inl (Grows.refl _)
          · rfl
        | 15, _ =>
          clear hd hq
          refine all_value rfl rfl (.pointer (some ⟨W.heap.size, 0, none⟩)) (W.alloc (.cells #[.int .i64 0, .int .i64 0, .slice none 0 0] 32)) (by go_simp) ?_ ?_
          · exact .inl (Grows.alloc _ _)
          · exact ⟨W.heap.size, _, _, _, rfl, hg.size, World.alloc_heap_new _ _⟩
        | 16, _ =>
          have h15 : Nw3 32 Wb.heap.size (us 15) W := hd 15 (by kernel_rfl)
          have h13 : Hp kk R (us 13) W := hd 13 (by kernel_rfl)
          clear hd hq
          obtain ⟨A', c', e9, hL⟩ := h13
          obtain ⟨p', x0, x1, x2, e11, hp, hblk⟩ := h15
          obtain ⟨q0, q1, q2⟩ := box3 hblk
          have f0 : ∀ i, W.frozen? ⟨p', i, none⟩ = false := fun i => by simp [World.frozen?, hblk]
          have HBK := Lib.hid hblk
          have hlp := lt_of hblk
          clear hblk
          refine all_skip rfl rfl (((W.setCell ⟨p', 0, none⟩ (.int .i64 (kk : Int))).setCell ⟨p', 1, none⟩ (.int .i64 0)).setCell ⟨p', 2, none⟩ (.slice A' R.length c')) (by go_simp) ?_ ?_
          · exact .inr ⟨rfl, st3_set hp HBK.out _ _ _⟩
          · exact ⟨p', A', c', e11, hp, set3 HBK.out _ _ _, levs_set3 (by decide) (by decide) HBK.out _ _ _ hL⟩
        | 17, _ =>
          have h14 : us 14 = .int .i64 0 := hd 14 (by kernel_rfl)
          clear hd hq
          refine all_value rfl rfl (.int .i64 0) W (by go_simp) ?_ ?_
          · exact .inl (Grows.refl _)
          · rfl
        | n + 18, h => exact absurd h (by simp)
      case hendB =>
        intro us W hg hf
        have h16 : Yb3 32 Wb.heap.size kk R (us 15) W := hf 16 (by simp)
        have h17 : us 17 = .int .i64 0 := hf 17 (by simp)
        clear hf
        obtain ⟨p, A', c', e15, hp, hblk, hL⟩ := h16
        rw [h17, e15]
        have HBK := Lib.hid hblk
        have HLV := Lib.hid hL
        have HROW := Lib.hid (HM4.out.grow hg)
        have HGG := Lib.hid hg
        obtain ⟨q0, q1, q2⟩ := box3 hblk
        have lp := lt_of hblk
        have hwaW : wa.heap.size ≤ W.heap.size := Nat.le_trans hwab hg.size
        have hp1W := (hg.block _ (lt_of HP1.out)).trans HP1.out
        have hpbW := (hg.block _ (lt_of HPB.out)).trans HPB.out
        have HP1W := Lib.hid hp1W
        have HPBW := Lib.hid hpbW
        have HLAW := Lib.hid (HLA2.out.grow hg)
        have HLBW := Lib.hid (HLB2.out.grow hg)
        clear hblk hL hg e15 h17 HADD HM4 hp1W hpbW HP1 HPB HLA2 HLB2 HLD HD0 HD1 HLP HKA
        go_upto_region 17 with (at_builtin; refine wpList_app (L := hxL) 32 _ 40 info_hist Try.underlying62 rfl (by decide) (by decide) _ rfl _ _ rfl wa.heap.size _ _ ys [⟨(kk : Int), 0, A', c', R⟩] _ rfl (World.ownsRow.alloc HROW.out.own _) rfl (lit_hist _ _ _ rfl ⟨(kk : Int), 0, A', c', R⟩) (hx_one _) (by simp; omega) (by simp; omega) ?_; intro v' w5 ho5 hg5; have hob := (Below.refl W.heap.size W).alloc (Nat.le_refl _) (.cells #[.int .i64 (kk : Int), .int .i64 0, .slice A' R.length c'] 32); have HO5 := Lib.hid (HROW.out.snoc hob ho5 hg5 (by decide) (by decide) HLV.out HGD.out); have hty := Row.ty (HROW.out.grow hob); have HA5 := Lib.hid ((HLAW.out.grow hob).other hg5 fun b e => ⟨fun h => Ty.ne (hty b e) h (by decide) rfl, fun h => Ty.ne (hty b e) h (by decide) rfl⟩); have HB5 := Lib.hid ((HLBW.out.grow hob).other hg5 fun b e => ⟨fun h => Ty.ne (hty b e) h (by decide) rfl, fun h => Ty.ne (hty b e) h (by decide) rfl⟩); have h1 := (hob.block _ (lt_of HP1W.out)).trans HP1W.out; have h2 := (hob.block _ (lt_of HPBW.out)).trans HPBW.out; have HQ1 := Lib.hid ((hg5.block pa (lt_of h1) (fun e => by have := HOWN.out pa e.symm; omega)).trans h1); have HQ2 := Lib.hid ((hg5.block pb (lt_of h2) (fun e => by have := HOWN.out pb e.symm; omega)).trans h2); have HG5 := Lib.hid ((thn HBWb.out (HGG.out.trans (hob.mono HGG.out.size))).grown hg5 (by have := HBWb.out.size; have := HGG.out.size; simp; omega) (fun q hq => Nat.le_trans HWA.out (HROW.out.own.lt q hq).1)); clear ho5 hg5 hob hty h1 h2)
        obtain ⟨B', e', rfl, -, -⟩ := own_form HO5.out.own
        have hlen1 : (ys ++ [(⟨(kk : Int), 0, A', c', R⟩ : Hx)]).length = j + 1 := by simp [hyl]
        have hs5 := HO5.out.hs
        rw [hlen1] at hs5 ⊢
        have HS5 := Lib.hid hs5
        clear hs5 hlen1 HO5 q0 q1 q2 lp HBK HLV HROW HGG HP1W HPBW HLAW HLBW HBWb HOWN
        go_upto_region 18 with (go_at_call 15; refine (HMG.out _ _ _ _ _ HS5.out).mono ?_; rintro e w6 ⟨A3, c3, rfl, hL6, hb6⟩; have HL6 := Lib.hid hL6; have HB6 := Lib.hid hb6; clear hL6 hb6)
        obtain ⟨Wc, hWc⟩ : ∃ W, w6.alloc (.cells #[.int .i64 (kk : Int), .int .i64 k2, .slice A3 o3.length c3] 32) = W := ⟨_, rfl⟩
        have bc : Below w6.heap.size w6 Wc := by rw [← hWc]; exact (Below.refl _ w6).alloc (Nat.le_refl _) _
        have pC : Wc.heap[w6.heap.size]? = some (.cells #[.int .i64 (kk : Int), .int .i64 k2, .slice A3 o3.length c3] 32) := by rw [← hWc]; exact heap_alloc_new w6 _
        rw [hWc]
        have bbc := thn HB6.out bc
        have r1 := (bbc.block _ (lt_of HQ1.out)).trans HQ1.out
        have r2 := (bbc.block _ (lt_of HQ2.out)).trans HQ2.out
        obtain ⟨x0, x1, x2⟩ := box3 r1
        obtain ⟨y0, y1, y2⟩ := box3 r2
        have lx := lt_of r1
        have ly := lt_of r2
        have HQ3 := Lib.hid r1
        have HQC := Lib.hid pC
        have HL1 := Lib.hid (HA5.out.grow bbc)
        have HL2 := Lib.hid (HB5.out.grow bbc)
        have HL3 := Lib.hid (HL6.out.grow bc)
        have HGC := Lib.hid (thn HG5.out bbc)
        obtain ⟨pc, hpc⟩ : ∃ p, w6.heap.size = p := ⟨_, rfl⟩
        rw [hpc] at HQC ⊢
        clear bc pC hWc bbc r1 r2 HQ1 HQ2 HA5 HB5 HL6 HG5 HB6 hpc HS5 HMG
        go_wp2_with (first
          | (go_at_call 30; refine (HSM.out _ _ _ _ _ HL1.out HL2.out).mono ?_; rintro e w7 ⟨rfl, hb7⟩; have hr3 := (hb7.block _ (lt_of HQ3.out)).trans HQ3.out; have hrc := (hb7.block _ (lt_of HQC.out)).trans HQC.out; obtain ⟨g0, g1, g2⟩ := box3 hr3; obtain ⟨h0, h1, h2⟩ := box3 hrc; have l3 := lt_of hr3; have l4 := lt_of hrc; have HB7 := Lib.hid hb7; have HL17 := Lib.hid (HL1.out.grow hb7); have HL37 := Lib.hid (HL3.out.grow hb7); clear hb7 hr3 hrc)
          | (go_at_call 16; refine (HS2.out _ _ _ _ _ HL17.out HL37.out).mono ?_; rintro e w8 ⟨rfl, hb8⟩; have HB8 := Lib.hid hb8; clear hb8))
        go_ret
        exact ⟨rfl, thn HGC.out (thn HB7.out HB8.out)⟩

set_option maxRecDepth 100000 in
theorem lifted (os : Os) (started : os.Started) (H : Type) (enc : TypeId × Value → H) :
    ReturnsInHanded {} Try.checked os 8 .any (Rows.replayWithSpec.pre6 enc Try.prog Try.f8 Rows.replayWithRow.domain false) (Rows.replayWithSpec.post enc Try.prog Try.f8 false true false false) := by
  refine returnsInHanded_of_change (C := Try.checked) own started (by kernel_rfl) Try.func8
    (ChangeSpec.witness6 (enc := enc) (C := Try.checked) false ⟨#[], #[.slice none 0 0, .int .i64 0, .slice none 0 0], []⟩ 8 (by kernel_rfl) (by kernel_rfl) (by kernel_rfl) (by kernel_rfl)) ?_
  intro W base args ds gs before hval0 hW hcnd _
  have hval : ∀ (j : Nat) t v, Try.f8.params[j]? = some t → args[j]? = some v → Value.okWide Try.prog W .any base t v := hval0
  have hW' := hW
  obtain ⟨p, q, hA0, hV, rfl, hfz, hnd⟩ := hW
  have hA : DataW.TrodAll enc Try.prog W 0 (fun _ => true) true Try.f8.params.toList args.toList ds p := hA0
  rw [Try.params8] at hA hval
  obtain ⟨v0, vs0, d0, ds0, p0, q0, hargs, rfl, rfl, h0, r0⟩ := trodAll_cons hA
  obtain ⟨v1, vs1, d1, ds1, p1, q1, rfl, rfl, rfl, h1, r1⟩ := trodAll_cons r0
  obtain ⟨v2, vs2, d2, ds2, p2, q2, rfl, rfl, rfl, h2, r2⟩ := trodAll_cons r1
  obtain ⟨rfl, rfl, rfl⟩ := trodAll_nil r2
  obtain rfl : args = #[v0, v1, v2] := by cases args; simp_all
  obtain ⟨rfl, rfl⟩ := trodVars_none hV
  have k0 := h0
  have lt0 : ∀ x ∈ p0, x.block < W.heap.size := by obtain ⟨m, hm⟩ := k0; exact DataW.trod_lt m _ _ _ hm
  obtain ⟨a0, cap0, ls0, rfl, w0, wb0⟩ := Op.open_lists (f := 9) (e1 := 31) (e := 72) Try.underlying23 (by kernel_rfl) (by kernel_rfl) (by kernel_rfl) (by kernel_rfl) (hval 0 23 v0 rfl rfl) h0
  obtain ⟨a1, rfl, rfl, rfl, w1⟩ := open_int Try.underlying3 (hval 1 3 v1 rfl rfl) h1
  obtain ⟨a2, len2, cap2, rfl⟩ := okWide_slice Try.underlying61 (hval 2 61 v2 rfl rfl)
  have k2 := h2
  have lt2 : ∀ x ∈ p2, x.block < W.heap.size := by obtain ⟨m, hm⟩ := k2; exact DataW.trod_lt m _ _ _ hm
  obtain ⟨z2, w2⟩ := Op.open_flats (f := 9) (ks := [.u64, .u64, .u64]) Try.underlying61 (by kernel_rfl) (by kernel_rfl) (by decide) h2
  clear hA0 hval0
  refine (walk a0 cap0 ls0 a1 a2 len2 cap2 z2 W w0 wb0 w1 w2).mono fun e W' ⟨he, bel⟩ => ?_
  subst he
  exact ⟨_, rfl, _, _, _, [], _, [], hW', trodAll_mk1 (shut_bool Try.underlying4 _), (trodAll_cons_mk (Below.trod laidOut (by kernel_rfl) (of_decide_eq_true (by kernel_rfl)) k0 bel lt0) (trodAll_cons_mk (shut_int Try.underlying3 w1) (trodAll_cons_mk (Below.trod laidOut (by kernel_rfl) (of_decide_eq_true (by kernel_rfl)) k2 bel lt2) trodAll_mk0))), rfl, bel.frame _, fun h => by cases h⟩

theorem over : Rows.replayWithRow.holds Try.pinned (OpenSpec.ofChange Rows.replayWithSpec) :=
  OpenClaim.holds_of_wide 8 Try.f8 rfl rfl rfl rfl rfl rfl rfl ⟨rfl, rfl, rfl, rfl, rfl⟩ rfl rfl rfl rfl rfl (by kernel_rfl) Try.func8 (by kernel_rfl)
    (of_decide_eq_true (by kernel_rfl)) (by unfold Func.isWrapper; first | (rw [if_pos (by decide +kernel)]; kernel_rfl) | (rw [if_neg (by decide +kernel)]; exact ⟨rfl, rfl⟩))
    (fun os started H enc _ => lifted os started H enc)

/-- The statement. -/
theorem proved : Rows.ReplayWithSaid := over
#print axioms proved
end Go.Proofs.Ytpdhkpgnajfobaa.replayWith
