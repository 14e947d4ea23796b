/-
  'skylight/skylightlaw10.ReplayMerges' returns true for every input, and the input reads afterwards as it read before. Conditions: none.
-/
import Derived.Test.YtpdhkpgnajfobaaRows
import Derived.WalkKit
import Derived.ProofKit
import Derived.OpenShut
import Derived.ShutString
import Derived.ChangeOld
import Derived.Below
import Derived.Test.YtpdhkpgnajfobaaJ01
import Derived.Test.YtpdhkpgnajfobaaJ18
namespace Go.Proofs.Ytpdhkpgnajfobaa.replayMerges
open Go.Proofs Go.Proofs.Rn Go.Proofs.Op Go.Proofs.Rw Go.Proofs.Lm Go.Proofs.Lh Go.Proofs.Rf
open Go.ChangeShapes Go.WideShapes Go.ChangeAt Go.RowKit
open Go.ChangeMaps (open_string shut_string)
set_option linter.unusedVariables false

theorem own : ownKnob Try.prog.godebug = none := by kernel_rfl
theorem laidOut : laidOutB Try.prog = true := by kernel_rfl

/-- A slice of integers that came in: nil, or a row of cells of its capacity, each fitting its kind. -/
def IsRow (k : IntKind) (w : World) (a : Option Addr) (len cap : Nat) (zs : List Int) : Prop :=
  (a = none ∧ len = 0 ∧ cap = 0 ∧ zs = []) ∨
  ∃ x, a = some x ∧ len ≤ cap ∧ cap ≤ maxLen ∧ zs.length = cap ∧ (∀ i, i < zs.length → w.cell? (x.add i) = some (.int k (zs.getD i 0))) ∧ ∀ n ∈ zs, (Lit.int k n).wf = true

open Go.RowKit Go.Shelf Go.Proofs.Rw Go.Proofs.Lh Go.Proofs.Rf
theorem int_at {k : IntKind} {w : World} {a : Option Addr} {len cap : Nat} {zs : List Int} (h : IsRow k w a len cap zs) (h0 : 0 < len) : ∃ b off, a = some ⟨b, off, none⟩ ∧ b < w.heap.size ∧ ∀ i, i < len → w.cell? ⟨b, off + i, none⟩ = some (.int k (zs.getD i 0)) ∧ (Lit.int k (zs.getD i 0)).wf = true := by
  rcases h with ⟨_, e, _⟩ | ⟨x, rfl, h1, h2, h3, h4, h5⟩
  · omega
  obtain ⟨b, off, s⟩ := x
  have h40 := h4 0 (by omega)
  have hs : s = none := by
    cases s with
    | none => rfl
    | some s =>
      simp only [World.cell?, Addr.add] at h40
      split at h40
      · simp at h40
      · cases h40
  subst hs
  refine ⟨b, off, rfl, ?_, fun i hi => ⟨?_, ?_⟩⟩
  · exact World.block_lt_of_cell? w _ h40
  · have := h4 i (by omega)
    rw [Addr.add_lit] at this
    exact this
  · have hl : i < zs.length := by omega
    rw [show zs.getD i 0 = zs[i] by simp [List.getD, List.getElem?_eq_getElem hl]]
    exact h5 _ (List.getElem_mem hl)

set_option maxRecDepth 100000 in
set_option maxHeartbeats 4000000 in
theorem walk (a0 : Option Addr) (len0 cap0 : Nat) (z0 : List Int) (a1 : Option Addr) (cap1 : Nat) (ls1 : List (List Rw.Sp)) (a2 : Option Addr) (len2 cap2 : Nat) (z2 : List Int) (w : World) (w0 : IsRow .i64 w a0 len0 cap0 z0) (w1 : Rw.Reads w w.heap.size (.slice a1 ls1.length cap1) ls1) (wb1 : ∀ l ∈ ls1, ∀ y ∈ l, y.1 < 18446744073709551616 ∧ y.2 < 18446744073709551616) (w2 : IsRow .u8 w a2 len2 cap2 z2) :
    Calls Try.prog 3 #[.slice a0 len0 cap0, .slice a1 ls1.length cap1, .slice a2 len2 cap2] w fun e w' => e = .returned (.bool true) ∧ Below w.heap.size w w' := by
  obtain ⟨N, hN⟩ : ∃ N, ls1.length = N := ⟨_, rfl⟩
  have HN := Lib.hid hN
  have HR := Lib.hid w1
  have HWB := Lib.hid wb1
  have W0 := Lib.hid w0
  have W2 := Lib.hid w2
  rw [hN] at HR ⊢
  clear hN w1 wb1 w0 w2
  go_enter Try.func3, Try.ntmps3
  by_cases h6 : N ≤ 6
  case neg =>
    go_wp2_with (go_at_call 9; refine (awake_any _).mono ?_; rintro e wa ⟨rfl, ha⟩)
    go_ret
    exact ⟨rfl, ha⟩
  go_wp2_with (go_at_call 9; refine (awake_any _).mono ?_; rintro e wa ⟨rfl, ha⟩; have HA := Lib.hid ha; clear ha)
  go_loopw [8, 9] (fun v p wr => ∃ (j : Nat) (xs : List Hx), p = .int .i64 (j : Int) ∧ j ≤ N ∧ xs.length = j ∧ Hid (Row 29 wa.heap.size v xs wr) ∧ Hid (Below wa.heap.size wa wr)) (fun _ p _ => N - (intOf p).toNat)
  case atStart => exact ⟨0, [], rfl, Nat.zero_le _, rfl, Lib.hid (Row.nil _ _ _), Lib.hid (Below.refl _ _)⟩
  case round =>
    obtain ⟨j, xs, rfl, hj, hxl, HO, HBR⟩ := hrel
    obtain ⟨A0, c0, rfl, -, -⟩ := own_form HO.out.own
    by_cases hlt : j < N
    · have hjl : j < ls1.length := by rw [HN.out]; exact hlt
      have hbw : Below w.heap.size w wr := thn HA.out HBR.out
      rename World => wo
      go_upto_if 29 with (fail)
      go_cut [10] from 20 to 61 (fun s10 wx => ∃ nv : Int, s10 = .int .i64 nv ∧ (Lit.int .i64 nv).wf = true ∧ wo = wx)
      case first =>
        by_cases hk : j < len0
        · obtain ⟨b, off, rfl, hb, hc⟩ := int_at W0.out (by omega)
          obtain ⟨hc1, hc2⟩ := hc j hk
          have q1 := (hbw.cell (p := ⟨b, off + j, none⟩) hb).trans hc1
          have lb : b < wo.heap.size := Nat.lt_of_lt_of_le hb hbw.size
          have HWF := Lib.hid hc2
          obtain ⟨nv, hnv⟩ : ∃ n, z0.getD j 0 = n := ⟨_, rfl⟩
          rw [hnv] at q1 HWF
          clear hc hc1 hc2 hnv
          go_wp2
          go_meet
          case rel => exact ⟨nv, rfl, HWF.out, rfl⟩
        · go_wp2
          go_meet
          case rel => exact ⟨0, rfl, by decide, rfl⟩
      case rest =>
      obtain ⟨nv, rfl, hwf, rfl⟩ := hcut
      obtain ⟨b1, o1, rfl, hb1, -, hc1⟩ := HR.out.at (by omega)
      obtain ⟨Ai, ci, d0, d1, d2, d3⟩ := hc1 j hjl
      have hcell := (hbw.cell (p := ⟨b1, o1 + j, none⟩) hb1).trans d0
      obtain ⟨l, hl⟩ : ∃ l, ls1[j] = l := ⟨_, rfl⟩
      have hwb := HWB.out ls1[j] (List.getElem_mem hjl)
      rw [hl] at d0 d1 d3 hcell hwb
      obtain ⟨nn, hnn⟩ : ∃ n, l.length = n := ⟨_, rfl⟩
      obtain ⟨mm, hmm⟩ : ∃ m, min nn 20 = m := ⟨_, rfl⟩
      rw [hnn] at d0 d1 d3 hcell
      have hmn : mm ≤ nn := by omega
      have hdl : (l.take mm).length = mm := by rw [List.length_take, hnn]; omega
      have hdeed : Deeds w Ai mm ci (l.take mm) := ⟨hdl, by
        have := Lies.take (L := spL) (by rw [hnn]; exact d3) mm ci (by rw [hnn]; exact hmn) (by omega) d2
        exact this, fun x hx => hwb x (List.mem_of_mem_take hx)⟩
      have hma := fun (W : World) (hW : Below wo.heap.size wo W) => gmade_any nv hwf (l.take mm) W Ai mm ci (hdeed.grow (thn hbw hW))
      have hdn := done_le (l.take mm)
      have hgo := fun (g : Int) (g0 : 0 ≤ g) (g4 : g ≤ 4) => good_play (kOf nv) (kOf_le nv).1 (by have := (kOf_le nv).2; omega) (l.take mm) _ hdn.1 (by omega) g g0 g4
      obtain ⟨kk, hkk⟩ : ∃ k : Int, ((kOf nv : Nat) : Int) = k := ⟨_, rfl⟩
      obtain ⟨R, hR⟩ : ∃ R, (play (kOf nv) (l.take mm) (doneN (l.take mm))).2 = R := ⟨_, rfl⟩
      simp only [hkk, hR] at hma hgo
      have lb1 : b1 < wo.heap.size := Nat.lt_of_lt_of_le hb1 hbw.size
      have HLI := Lib.hid lb1
      have HLC := Lib.hid hcell
      have HMA := Lib.hid hma
      have HGO := Lib.hid hgo
      have HMM := Lib.hid hmm
      have HWW := Lib.hid hbw
      have hmc : mm ≤ ci := by omega
      clear hc1 d0 d1 d2 d3 hcell hwb hnn hmm hdl hdeed hma hdn hgo hkk hR hl hwf hjl lb1 hbw
      go_upto_region 11 with (fail)
      refine region_all (fr := ?frA) (fun i us W => match i with
          | 0 => us 0 = .int .i64 nv
          | 1 => us 1 = .slice (some ⟨b1, o1, none⟩) N cap1
          | 2 => us 2 = .int .i64 (j : Int)
          | 3 => us 3 = .pointer (some ⟨b1, o1 + j, none⟩)
          | 4 => us 4 = .slice Ai nn ci
          | 5 => us 5 = .slice (some ⟨b1, o1, none⟩) N cap1
          | 6 => us 6 = .int .i64 (j : Int)
          | 7 => us 7 = .pointer (some ⟨b1, o1 + j, none⟩)
          | 8 => us 8 = .slice Ai nn ci
          | 9 => us 9 = .int .i64 (nn : Int)
          | 10 => us 10 = .int .i64 (mm : Int)
          | 11 => us 11 = .slice Ai mm ci
          | 12 => Hp kk R (us 12) W
          | 13 => Nw3 29 wo.heap.size (us 13) W
          | 14 => Yb3 29 wo.heap.size kk R (us 13) W
          | _ => True) (fun j W W' => Ea 29 wo.heap.size 14 j W W') (fun W => Below wo.heap.size wo W) rfl ?hBA ?hfrA ?hlocA ?hstA ?hG0A ?hGA ?hopA ?hendA
      case hBA => kernel_rfl
      case hfrA =>
        intro us
        simp only [List.length_cons, List.length_nil, Nat.zero_add, Nat.reduceAdd, putO, dstO]
        go_simp
        rfl
      case hlocA =>
        intro i us us' W h hf
        match i with
        | 0 =>
          have e0 := h 0 (.inl rfl)
          try dsimp only at hf ⊢
          rw [e0] at hf
          exact hf
        | 1 =>
          have e1 := h 1 (.inl rfl)
          try dsimp only at hf ⊢
          rw [e1] at hf
          exact hf
        | 2 =>
          have e2 := h 2 (.inl rfl)
          try dsimp only at hf ⊢
          rw [e2] at hf
          exact hf
        | 3 =>
          have e3 := h 3 (.inl rfl)
          try dsimp only at hf ⊢
          rw [e3] at hf
          exact hf
        | 4 =>
          have e4 := h 4 (.inl rfl)
          try dsimp only at hf ⊢
          rw [e4] at hf
          exact hf
        | 5 =>
          have e5 := h 5 (.inl rfl)
          try dsimp only at hf ⊢
          rw [e5] at hf
          exact hf
        | 6 =>
          have e6 := h 6 (.inl rfl)
          try dsimp only at hf ⊢
          rw [e6] at hf
          exact hf
        | 7 =>
          have e7 := h 7 (.inl rfl)
          try dsimp only at hf ⊢
          rw [e7] at hf
          exact hf
        | 8 =>
          have e8 := h 8 (.inl rfl)
          try dsimp only at hf ⊢
          rw [e8] at hf
          exact hf
        | 9 =>
          have e9 := h 9 (.inl rfl)
          try dsimp only at hf ⊢
          rw [e9] at hf
          exact hf
        | 10 =>
          have e10 := h 10 (.inl rfl)
          try dsimp only at hf ⊢
          rw [e10] at hf
          exact hf
        | 11 =>
          have e11 := h 11 (.inl rfl)
          try dsimp only at hf ⊢
          rw [e11] at hf
          exact hf
        | 12 =>
          have e12 := h 12 (.inl rfl)
          try dsimp only at hf ⊢
          rw [e12] at hf
          exact hf
        | 13 =>
          have e13 := h 13 (.inl rfl)
          try dsimp only at hf ⊢
          rw [e13] at hf
          exact hf
        | 14 =>
          have e13 := h 13 (.inr (by kernel_rfl))
          try dsimp only at hf ⊢
          rw [e13] at hf
          exact hf
        | n + 15 => trivial
      case hstA =>
        intro i j us W W' hne hw hi hj hE hf
        match i with
        | 0 => exact hf
        | 1 => exact hf
        | 2 => exact hf
        | 3 => exact hf
        | 4 => exact hf
        | 5 => exact hf
        | 6 => exact hf
        | 7 => exact hf
        | 8 => exact hf
        | 9 => exact hf
        | 10 => exact hf
        | 11 => exact hf
        | 12 =>
          exact Hp.ea (by decide) (by decide) hE hf
        | 13 =>
          exact Nw3.ea hE hf
        | 14 =>
          exact Yb3.ea hE (Ne.symm hne) hf
        | n + 15 => trivial
      case hG0A =>
        exact (Below.refl _ wo).drew
      case hGA =>
        intro j W W' hE hg
        exact Ea.below hE hg hg.size
      case hopA =>
        intro i hi us W hg hd hq
        match i, hi with
        | 0, _ =>
          clear hd hq
          refine all_value rfl rfl (.int .i64 nv) W (by go_simp) ?_ ?_
          · exact .inl (Grows.refl _)
          · rfl
        | 1, _ =>
          clear hd hq
          refine all_value rfl rfl (.slice (some ⟨b1, o1, none⟩) N cap1) W (by go_simp) ?_ ?_
          · exact .inl (Grows.refl _)
          · rfl
        | 2, _ =>
          clear hd hq
          refine all_value rfl rfl (.int .i64 (j : Int)) W (by go_simp) ?_ ?_
          · exact .inl (Grows.refl _)
          · rfl
        | 3, _ =>
          have h1 : us 1 = .slice (some ⟨b1, o1, none⟩) N cap1 := hd 1 (by kernel_rfl)
          have h2 : us 2 = .int .i64 (j : Int) := hd 2 (by kernel_rfl)
          clear hd hq
          refine all_value rfl rfl (.pointer (some ⟨b1, o1 + j, none⟩)) W (by go_simp) ?_ ?_
          · exact .inl (Grows.refl _)
          · rfl
        | 4, _ =>
          have h3 : us 3 = .pointer (some ⟨b1, o1 + j, none⟩) := hd 3 (by kernel_rfl)
          clear hd hq
          have qa := (hg.cell (p := ⟨b1, o1 + j, none⟩) HLI.out).trans HLC.out
          refine all_value rfl rfl (.slice Ai nn ci) W (by go_simp) ?_ ?_
          · exact .inl (Grows.refl _)
          · rfl
        | 5, _ =>
          clear hd hq
          refine all_value rfl rfl (.slice (some ⟨b1, o1, none⟩) N cap1) W (by go_simp) ?_ ?_
          · exact .inl (Grows.refl _)
          · rfl
        | 6, _ =>
          clear hd hq
          refine all_value rfl rfl (.int .i64 (j : Int)) W (by go_simp) ?_ ?_
          · exact .inl (Grows.refl _)
          · rfl
        | 7, _ =>
          have h5 : us 5 = .slice (some ⟨b1, o1, none⟩) N cap1 := hd 5 (by kernel_rfl)
          have h6 : us 6 = .int .i64 (j : Int) := hd 6 (by kernel_rfl)
          clear hd hq
          refine all_value rfl rfl (.pointer (some ⟨b1, o1 + j, none⟩)) W (by go_simp) ?_ ?_
          · exact .inl (Grows.refl _)
          · rfl
        | 8, _ =>
          have h7 : us 7 = .pointer (some ⟨b1, o1 + j, none⟩) := hd 7 (by kernel_rfl)
          clear hd hq
          have qa := (hg.cell (p := ⟨b1, o1 + j, none⟩) HLI.out).trans HLC.out
          refine all_value rfl rfl (.slice Ai nn ci) W (by go_simp) ?_ ?_
          · exact .inl (Grows.refl _)
          · rfl
        | 9, _ =>
          have h8 : us 8 = .slice Ai nn ci := hd 8 (by kernel_rfl)
          clear hd hq
          refine all_value rfl rfl (.int .i64 (nn : Int)) W (by go_simp) ?_ ?_
          · exact .inl (Grows.refl _)
          · rfl
        | 10, _ =>
          have h9 : us 9 = .int .i64 (nn : Int) := hd 9 (by kernel_rfl)
          clear hd hq
          refine all_value rfl rfl (.int .i64 (mm : Int)) W (by go_simp; have := HMM.out; omega) ?_ ?_
          · exact .inl (Grows.refl _)
          · rfl
        | 11, _ =>
          have h4 : us 4 = .slice Ai nn ci := hd 4 (by kernel_rfl)
          have h10 : us 10 = .int .i64 (mm : Int) := hd 10 (by kernel_rfl)
          clear hd hq
          refine all_value rfl rfl (.slice Ai mm ci) W (by go_simp) ?_ ?_
          · exact .inl (Grows.refl _)
          · rfl
        | 12, _ =>
          have h0 : us 0 = .int .i64 nv := hd 0 (by kernel_rfl)
          have h11 : us 11 = .slice Ai mm ci := hd 11 (by kernel_rfl)
          clear hd hq
          refine all_call rfl rfl 10 #[.int .i64 nv, .slice Ai mm ci] (by go_simp) ?_
          exact (HMA.out W hg).mono fun _ W' ⟨A', c', he, hL, hb⟩ => ⟨_, he, .inl hb, ⟨A', c', rfl, hL⟩⟩
        | 13, _ =>
          clear hd hq
          refine all_value rfl rfl (.pointer (some ⟨W.heap.size, 0, none⟩)) (W.alloc (.cells #[.int .i64 0, .int .i64 0, .slice none 0 0] 29)) (by go_simp) ?_ ?_
          · exact .inl (Grows.alloc _ _)
          · exact ⟨W.heap.size, _, _, _, rfl, hg.size, World.alloc_heap_new _ _⟩
        | 14, _ =>
          have h13 : Nw3 29 wo.heap.size (us 13) W := hd 13 (by kernel_rfl)
          have h12 : Hp kk R (us 12) W := hd 12 (by kernel_rfl)
          clear hd hq
          obtain ⟨A', c', e9, hL⟩ := h12
          obtain ⟨p', x0, x1, x2, e11, hp, hblk⟩ := h13
          obtain ⟨q0, q1, q2⟩ := box3 hblk
          have f0 : ∀ i, W.frozen? ⟨p', i, none⟩ = false := fun i => by simp [World.frozen?, hblk]
          have HBK := Lib.hid hblk
          have hlp := lt_of hblk
          clear hblk
          refine all_skip rfl rfl (((W.setCell ⟨p', 0, none⟩ (.int .i64 kk)).setCell ⟨p', 1, none⟩ (.int .i64 0)).setCell ⟨p', 2, none⟩ (.slice A' R.length c')) (by go_simp) ?_ ?_
          · exact .inr ⟨rfl, st3_set hp HBK.out _ _ _⟩
          · exact ⟨p', A', c', e11, hp, set3 HBK.out _ _ _, levs_set3 (by decide) (by decide) HBK.out _ _ _ hL⟩
        | n + 15, h => exact absurd h (by simp)
      case hendA =>
        intro us W hg hf
        have h14 : Yb3 29 wo.heap.size kk R (us 13) W := hf 14 (by simp)
        clear hf
        obtain ⟨p, A', c', e13, hp, hblk, hL⟩ := h14
        rw [e13]
        have HBK := Lib.hid hblk
        have HLV := Lib.hid hL
        have HGW := Lib.hid hg
        have HROW := Lib.hid (HO.out.grow hg)
        obtain ⟨q0, q1, q2⟩ := box3 hblk
        have f0 : ∀ i, W.frozen? ⟨p, i, none⟩ = false := fun i => by simp [World.frozen?, hblk]
        have lp := lt_of hblk
        have hbw : Below w.heap.size w W := thn HWW.out hg
        have HBW := Lib.hid hbw
        clear hblk hL hg e13 HMA HLC HLI HMM hbw
        have hwo : w.heap.size ≤ wo.heap.size := HWW.out.size
        have hwa : wa.heap.size ≤ wo.heap.size := HBR.out.size
        have hpo : ∀ b, (Value.slice A0 j c0).ownBlock = some b → b ≠ p := fun b hb e => by
          have := (HO.out.own.lt b (by rw [hxl]; exact hb)).2
          omega
        have HPO := Lib.hid hpo
        have HBA := Lib.hid (thn HBR.out HGW.out)
        rw [hxl] at HROW
        clear hpo HGW HO HBR HWW
        go_upto_if 50 with (fail)
        go_cut [57] from 20 to 61 (fun _ wx => ∃ g : Int, 0 ≤ g ∧ g ≤ 4 ∧ wx.heap[p]? = some (.cells #[.int .i64 kk, .int .i64 g, .slice A' R.length c'] 29) ∧ Levs wx wx.heap.size (.slice A' R.length c') R ∧ Row 29 wa.heap.size (.slice A0 j c0) xs wx ∧ Below w.heap.size w wx ∧ Below wa.heap.size wa wx)
        case first =>
          by_cases hgn : j < len2
          · obtain ⟨b, off, rfl, hb, hc⟩ := int_at W2.out (by omega)
            obtain ⟨hc1, hc2⟩ := hc j hgn
            have q3 := (HBW.out.cell (p := ⟨b, off + j, none⟩) hb).trans hc1
            have lb : b < W.heap.size := Nat.lt_of_lt_of_le hb HBW.out.size
            obtain ⟨v, hv⟩ : ∃ n, z2.getD j 0 = n := ⟨_, rfl⟩
            rw [hv] at q3 hc2
            obtain ⟨v0, v1⟩ := bounds_u8 hc2
            obtain ⟨vn, rfl⟩ : ∃ n : Nat, v = (n : Int) := ⟨v.toNat, by omega⟩
            have hv8 : vn < 256 := by omega
            clear hc hc1 hc2 hv v0 v1
            go_wp2
            go_meet
            case rel =>
              have hgs : W.grownBy (W.setCell ⟨p, 1, none⟩ (.int .i64 ((vn : Int) % 5))) (some p) := grown_set _ _ _ _
              have hty : Ty W 29 p := ⟨_, _, HBK.out⟩
              refine ⟨(vn : Int) % 5, by omega, by omega, set1 _ HBK.out, ?_, ?_, HBW.out.setCell (p := ⟨p, 1, none⟩) (by simp; omega) _, HBA.out.setCell (p := ⟨p, 1, none⟩) (by simp; omega) _⟩
              · exact HLV.out.other hgs fun b' e => by
                  cases e
                  exact ⟨fun h => Ty.ne hty h (by decide) rfl, fun h => Ty.ne hty h (by decide) rfl⟩
              · exact HROW.out.off hgs hty (by decide) (by decide) fun e => HPO.out p e rfl
          · go_wp2
            go_meet
            case rel => exact ⟨0, by omega, by omega, HBK.out, HLV.out, HROW.out, HBW.out, HBA.out⟩
        case rest =>
        obtain ⟨g, g0, g4, hbk, hlv, hrow, hbw, hba⟩ := hcut
        have hgood := HGO.out g g0 g4
        obtain ⟨x0, x1, x2⟩ := box3 hbk
        have lp2 := lt_of hbk
        have HRW := Lib.hid hrow
        have HLV2 := Lib.hid hlv
        have HGD := Lib.hid hgood
        have HBB := Lib.hid hba
        clear q0 q1 q2 f0 lp HBK HLV HROW HBW HBA HGO hbk hlv hgood hrow hbw hba
        go_wp2_with (at_builtin; refine wpList_app (L := hxL) 29 _ 40 info_rhist Try.underlying26 rfl (by decide) (by decide) _ rfl _ _ rfl wa.heap.size _ _ xs [⟨kk, g, A', c', R⟩] _ rfl (World.ownsRow.alloc HRW.out.own _) rfl (lit_hist _ _ _ rfl ⟨kk, g, A', c', R⟩) (hx_one _) (by simp; omega) (by have := HBB.out.size; simp; omega) ?_; intro v' w3 ho3 hg3; have HO3 := Lib.hid ho3; have HG3 := Lib.hid hg3; clear ho3 hg3)
        refine ⟨⟨j + 1, xs ++ [⟨kk, g, A', c', R⟩], by go_num, hlt, by simp [hxl], Lib.hid ?_, Lib.hid ?_⟩, by simp [intOf]; omega⟩
        · exact HRW.out.snoc ((Below.refl _ wc).alloc (Nat.le_refl _) _) HO3.out HG3.out (by decide) (by decide) HLV2.out HGD.out
        · exact (HBB.out.alloc HBB.out.size _).grown HG3.out (by have := HBB.out.size; simp; omega) (fun q hq => (HRW.out.own.lt q hq).1)
    · have e : j = N := by omega
      subst e
      have hrow := HO.out
      rw [hxl] at hrow ⊢
      have hmg := merged_any xs ⟨by omega, by simp, (by intro e he; cases he), hrow.good⟩ wr A0 c0 (by have := HO.out.hs; exact this)
      rw [hxl] at hmg
      have HMG := Lib.hid hmg
      have HBW := Lib.hid (thn HA.out HBR.out)
      clear hmg hrow HO HBR HA
      go_wp2_with (go_at_call 11; refine HMG.out.mono ?_; rintro e w2 ⟨A1, c1, A2, c2, rfl, -, -, hb2⟩; have HB2 := Lib.hid hb2; clear hb2)
      go_ret
      exact ⟨rfl, (thn HBW.out HB2.out).trans (((Below.refl _ w2).alloc (Nat.le_refl _) _).alloc (by simp) _ |>.mono (by have := HBW.out.size; have := HB2.out.size; omega))⟩

set_option maxRecDepth 100000 in
theorem lifted (os : Os) (started : os.Started) (H : Type) (enc : TypeId × Value → H) :
    ReturnsInHanded {} Try.checked os 3 .any (Rows.replayMergesSpec.pre6 enc Try.prog Try.f3 Rows.replayMergesRow.domain false) (Rows.replayMergesSpec.post enc Try.prog Try.f3 false true false false) := by
  refine returnsInHanded_of_change (C := Try.checked) own started (by kernel_rfl) Try.func3
    (ChangeSpec.witness6 (enc := enc) (C := Try.checked) false ⟨#[], #[.slice none 0 0, .slice none 0 0, .slice none 0 0], []⟩ 8 (by kernel_rfl) (by kernel_rfl) (by kernel_rfl) (by kernel_rfl)) ?_
  intro W base args ds gs before hval0 hW hcnd _
  have hval : ∀ (j : Nat) t v, Try.f3.params[j]? = some t → args[j]? = some v → Value.okWide Try.prog W .any base t v := hval0
  have hW' := hW
  obtain ⟨p, q, hA0, hV, rfl, hfz, hnd⟩ := hW
  have hA : DataW.TrodAll enc Try.prog W 0 (fun _ => true) true Try.f3.params.toList args.toList ds p := hA0
  rw [Try.params3] at hA hval
  obtain ⟨v0, vs0, d0, ds0, p0, q0, hargs, rfl, rfl, h0, r0⟩ := trodAll_cons hA
  obtain ⟨v1, vs1, d1, ds1, p1, q1, rfl, rfl, rfl, h1, r1⟩ := trodAll_cons r0
  obtain ⟨v2, vs2, d2, ds2, p2, q2, rfl, rfl, rfl, h2, r2⟩ := trodAll_cons r1
  obtain ⟨rfl, rfl, rfl⟩ := trodAll_nil r2
  obtain rfl : args = #[v0, v1, v2] := by cases args; simp_all
  obtain ⟨rfl, rfl⟩ := trodVars_none hV
  obtain ⟨a0, len0, cap0, rfl⟩ := okWide_slice Try.underlying22 (hval 0 22 v0 rfl rfl)
  have k0 := h0
  have lt0 : ∀ x ∈ p0, x.block < W.heap.size := by obtain ⟨m, hm⟩ := k0; exact DataW.trod_lt m _ _ _ hm
  obtain ⟨z0, w0⟩ : ∃ zs, IsRow .i64 W a0 len0 cap0 zs := by
    obtain ⟨fuel, hf⟩ := h0
    rcases open_ints Try.underlying22 Try.underlying3 (by kernel_rfl) hf with ⟨hcs, _⟩ | ⟨x, l, c, zs, hcs, _, hl, hm, hz, _, hcell, hwz⟩
    · simp [Value.cells] at hcs
      obtain ⟨rfl, rfl, rfl⟩ := hcs
      exact ⟨[], .inl ⟨rfl, rfl, rfl, rfl⟩⟩
    · simp [Value.cells] at hcs
      obtain ⟨rfl, rfl, rfl⟩ := hcs
      exact ⟨zs, .inr ⟨_, rfl, hl, hm, by simpa using hz, hcell, hwz⟩⟩
  have k1 := h1
  have lt1 : ∀ x ∈ p1, x.block < W.heap.size := by obtain ⟨m, hm⟩ := k1; exact DataW.trod_lt m _ _ _ hm
  obtain ⟨a1, cap1, ls1, rfl, w1, wb1⟩ := Op.open_lists (f := 9) (e1 := 31) (e := 72) Try.underlying23 (by kernel_rfl) (by kernel_rfl) (by kernel_rfl) (by kernel_rfl) (hval 1 23 v1 rfl rfl) h1
  obtain ⟨a2, len2, cap2, rfl⟩ := okWide_slice Try.underlying24 (hval 2 24 v2 rfl rfl)
  have k2 := h2
  have lt2 : ∀ x ∈ p2, x.block < W.heap.size := by obtain ⟨m, hm⟩ := k2; exact DataW.trod_lt m _ _ _ hm
  obtain ⟨z2, w2⟩ : ∃ zs, IsRow .u8 W a2 len2 cap2 zs := by
    obtain ⟨fuel, hf⟩ := h2
    rcases open_ints Try.underlying24 Try.underlying5 (by kernel_rfl) hf with ⟨hcs, _⟩ | ⟨x, l, c, zs, hcs, _, hl, hm, hz, _, hcell, hwz⟩
    · simp [Value.cells] at hcs
      obtain ⟨rfl, rfl, rfl⟩ := hcs
      exact ⟨[], .inl ⟨rfl, rfl, rfl, rfl⟩⟩
    · simp [Value.cells] at hcs
      obtain ⟨rfl, rfl, rfl⟩ := hcs
      exact ⟨zs, .inr ⟨_, rfl, hl, hm, by simpa using hz, hcell, hwz⟩⟩
  clear hA0 hval0
  refine (walk a0 len0 cap0 z0 a1 cap1 ls1 a2 len2 cap2 z2 W w0 w1 wb1 w2).mono fun e W' ⟨he, bel⟩ => ?_
  subst he
  exact ⟨_, rfl, _, _, _, [], _, [], hW', trodAll_mk1 (shut_bool Try.underlying4 _), (trodAll_cons_mk (Below.trod laidOut (by kernel_rfl) (of_decide_eq_true (by kernel_rfl)) k0 bel lt0) (trodAll_cons_mk (Below.trod laidOut (by kernel_rfl) (of_decide_eq_true (by kernel_rfl)) k1 bel lt1) (trodAll_cons_mk (Below.trod laidOut (by kernel_rfl) (of_decide_eq_true (by kernel_rfl)) k2 bel lt2) trodAll_mk0))), rfl, bel.frame _, fun h => by cases h⟩

theorem over : Rows.replayMergesRow.holds Try.pinned (OpenSpec.ofChange Rows.replayMergesSpec) :=
  OpenClaim.holds_of_wide 3 Try.f3 rfl rfl rfl rfl rfl rfl rfl ⟨rfl, rfl, rfl, rfl, rfl⟩ rfl rfl rfl rfl rfl (by kernel_rfl) Try.func3 (by kernel_rfl)
    (of_decide_eq_true (by kernel_rfl)) (by unfold Func.isWrapper; first | (rw [if_pos (by decide +kernel)]; kernel_rfl) | (rw [if_neg (by decide +kernel)]; exact ⟨rfl, rfl⟩))
    (fun os started H enc _ => lifted os started H enc)

/-- The statement. -/
theorem proved : Rows.ReplayMergesSaid := over
#print axioms proved
end Go.Proofs.Ytpdhkpgnajfobaa.replayMerges
