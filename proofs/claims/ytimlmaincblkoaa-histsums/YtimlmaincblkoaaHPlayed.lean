/- The contract of skylightlaw06.played. -/
import Derived.Test.YtimlmaincblkoaaHMade
namespace Go.Proofs.Ytimlmaincblkoaa
open Go.RowKit Go.Shelf Go.Proofs.Rw Go.Proofs.Lh Go.Proofs.Rf

theorem heap_drew {W : World} {b : Nat} {o : Obj} (h : W.heap[b]? = some o) : W.drew.heap[b]? = some o := h
theorem levs_drew {W : World} {v : Value} {ls : Lv} (h : Levs W W.heap.size v ls) : Levs W.drew W.drew.heap.size v ls := h

set_option maxRecDepth 100000 in
set_option maxHeartbeats 8000000 in
theorem played_any (k : Int) (k0 : -9223372036854775808 ≤ k) (k1 : k ≤ 9223372036854775807) (ds : List Sp) (w : World) (Ad : Option Addr) (nd cd : Nat) (hD : Deeds w Ad nd cd ds) :
    Calls Try.prog 10 #[.int .i64 k, .slice Ad nd cd] w fun e w' => ∃ A c A2 c2, e = .returned (.tuple #[hv (kOf k) 0 (.slice A (play (kOf k) ds (doneN ds)).2.length c), hv (kOf k) 0 (.slice A2 (play (kOf k) ds (doneN ds)).2.length c2), .bool true]) ∧ Levs w' w'.heap.size (.slice A (play (kOf k) ds (doneN ds)).2.length c) (play (kOf k) ds (doneN ds)).2 ∧ Levs w' w'.heap.size (.slice A2 (play (kOf k) ds (doneN ds)).2.length c2) (play (kOf k) ds (doneN ds)).2 ∧ Below w.heap.size w w' := by
  obtain ⟨kk, hkk⟩ : ∃ kk, kOf k = kk := ⟨_, rfl⟩
  have hke := kOf_eq k
  have hkl := kOf_le k
  rw [hkk] at hke hkl ⊢
  have HKE := Lib.hid hke
  have HD := Lib.hid hD
  clear hkk hke hD
  obtain ⟨W0, hW0, hsz, p0, p1, hB0⟩ := heap_two w (.cells #[.int .i64 0, .int .i64 0, .slice none 0 0] 26) (.cells #[.int .i64 0, .int .i64 0, .slice none 0 0] 27)
  have hnew := new_may (kk : Int) (may_of hkl.1 (by omega)) W0
  have HW0 := Lib.hid hW0
  have HB0 := Lib.hid hB0
  have P0 := Lib.hid p0
  have P1 := Lib.hid p1
  have HSZ := Lib.hid hsz
  have HNEW := Lib.hid hnew
  clear hW0 hB0 p0 p1 hsz hnew
  go_enter Try.func10, Try.ntmps10
  go_upto_region 1 with (fail)
  rw [← HW0.out]
  clear HW0
  go_cut [7, 8] from 17 to 24 (fun s7 s8 wx => s8 = .int .i64 0 ∧ ∃ w1 : World, Below W0.heap.size W0 w1 ∧ s7 = .pointer (some ⟨w1.heap.size, 0, none⟩) ∧ wx = w1.alloc (.cells #[.int .i64 (kk : Int), .int .i64 0, .slice none 0 0] 26))
  case first =>
    by_cases h : 0 ≤ k
    · have e : (2 + k % 30 : Int) = (kk : Int) := by have := HKE.out; rw [this, Int.max_eq_left h]
      have HE := Lib.hid e
      clear e
      go_wp2_with (go_at_call 18; rw [HE.out]; (with_reducible refine HNEW.out.mono ?_); rintro e w1 ⟨rfl, hb1⟩)
      go_meet
      case rel => exact ⟨rfl, w1, hb1, rfl, rfl⟩
    · have e : (2 : Int) = (kk : Int) := by have := HKE.out; rw [this]; omega
      have hn2 := HNEW.out
      rw [← e] at hn2
      have HN2 := Lib.hid hn2
      have HE := Lib.hid e
      clear e hn2
      go_wp2_with (go_at_call 18; (with_reducible refine HN2.out.mono ?_); rintro e w1 ⟨rfl, hb1⟩)
      go_meet
      case rel => exact ⟨rfl, w1, hb1, rfl, by rw [HE.out]⟩
  case rest =>
    obtain ⟨rfl, w1, hb1, rfl, rfl⟩ := hcut
    obtain ⟨bA, hbA⟩ : ∃ b, w1.heap.size = b := ⟨_, rfl⟩
    obtain ⟨wL, hwL, hLsz, y0, y1, hBL⟩ := heap_two w1 (.cells #[.int .i64 (kk : Int), .int .i64 0, .slice none 0 0] 26) (.cells #[.int .i64 (kk : Int), .int .i64 0, .slice none 0 0] 27)
    rw [hbA] at y0 y1 hBL ⊢
    have hz0 := HSZ.out
    have hz1 : w.heap.size + 2 ≤ bA := by have := hb1.size; omega
    have hr0 := (hb1.block w.heap.size (by omega)).trans P0.out
    have hr1 := (hb1.block (w.heap.size + 1) (by omega)).trans P1.out
    have HR0 := Lib.hid hr0
    have HR1 := Lib.hid hr1
    have HWL := Lib.hid hwL
    have Y0 := Lib.hid y0
    have Y1 := Lib.hid y1
    have HBL := Lib.hid hBL
    have HBA := Lib.hid hbA
    have HBW1 := Lib.hid (thn HB0.out hb1)
    clear hbA hwL hLsz y0 y1 hBL hz0 hr0 hr1 hb1 HB0 P0 P1 HNEW
    go_upto_region 2 with (fail)
    go_cut [9] from 25 to 29 (fun s9 wx => s9 = .pointer (some ⟨bA + 1, 0, none⟩) ∧ wL = wx)
    case first =>
      by_cases h : 0 ≤ k
      · go_wp2
        go_meet
        case rel =>
          have e : (2 + k % 30 : Int) = (kk : Int) := by have := HKE.out; rw [this, Int.max_eq_left h]
          refine ⟨by simp [HBA.out], ?_⟩
          rw [HWL.out, e]
      · go_wp2
        go_meet
        case rel =>
          have e : (2 : Int) = (kk : Int) := by have := HKE.out; rw [this]; omega
          refine ⟨by simp [HBA.out], ?_⟩
          rw [HWL.out, ← e]
    case rest =>
     obtain ⟨rfl, rfl⟩ := hcut
     clear HWL HKE
     go_wp2
     go_loopw [10, 11, 12] (fun s10 s11 s12 wr => ∃ (j : Nat) (A : Option Addr) (c : Nat) (A2 : Option Addr) (c2 : Nat), s12 = .int .i64 (j : Int) ∧ s11 = .int .u64 ((play kk ds j).1 : Int) ∧ s10 = .bool true ∧ j ≤ 30 ∧ j ≤ nd ∧ wr.heap[bA]? = some (.cells #[.int .i64 (kk : Int), .int .i64 0, .slice A (play kk ds j).2.length c] 26) ∧ Levs wr wr.heap.size (.slice A (play kk ds j).2.length c) (play kk ds j).2 ∧ wr.heap[bA + 1]? = some (.cells #[.int .i64 (kk : Int), .int .i64 0, .slice A2 (play kk ds j).2.length c2] 27) ∧ Levs wr wr.heap.size (.slice A2 (play kk ds j).2.length c2) (play kk ds j).2 ∧ Below bA w1 wr) (fun _ _ s12 _ => 30 - (intOf s12).toNat)
     case atStart =>
      refine ⟨0, none, 0, none, 0, rfl, ?_, by first | rfl | simp, by omega, Nat.zero_le _, ?_, ?_, ?_, ?_, HBL.out⟩
      · rw [play_zero]
        rfl
      · rw [play_zero]
        exact Y0.out
      · rw [play_zero]
        exact Levs.nil
      · rw [play_zero]
        exact Y1.out
      · rw [play_zero]
        exact Levs.nil
     case round =>
      obtain ⟨j, A, c, A2, c2, rfl, rfl, rfl, hj30, hjn, hbx, hL, hbx2, hL2, hbel⟩ := hrel
      have hbw : Below w.heap.size w wr := HBW1.out.trans (hbel.mono (by omega))
      have hdl := HD.out.1
      have hmd := play_made (k := kk) hkl.1 (by omega) ds j (by omega)
      have htk := play_tick kk ds j (by omega)
      obtain ⟨tk0, htk0⟩ : ∃ t, (play kk ds j).1 = t := ⟨_, rfl⟩
      obtain ⟨ls, hls⟩ : ∃ l, (play kk ds j).2 = l := ⟨_, rfl⟩
      obtain ⟨N, hN⟩ : ∃ n, ls.length = n := ⟨_, rfl⟩
      rw [htk0] at htk ⊢
      rw [hls, hN] at hbx hL hbx2 hL2
      rw [hls] at hmd
      obtain ⟨x0, x1, x2⟩ := box3 hbx
      have hlx := lt_of hbx
      have hlx2 := lt_of hbx2
      by_cases hlt : j < nd ∧ j < 30
      · have hdeed := (HD.out.grow hbw)
        obtain ⟨bd, od, rfl, hbd, -, hcd⟩ := sp_at hdeed.2.1 (by omega)
        obtain ⟨d0, d1⟩ := hcd j (by omega)
        have hin := hdeed.2.2 (ds[j]'(by omega)) (List.getElem_mem _)
        have hps := play_succ kk ds j (by omega)
        obtain ⟨x, hx⟩ : ∃ x, ds[j]'(by omega) = x := ⟨_, rfl⟩
        rw [hx] at d0 d1 hin hps
        obtain ⟨gp, hgp⟩ : ∃ g, x.1 = g := ⟨_, rfl⟩
        obtain ⟨wt, hwt⟩ : ∃ g, x.2 = g := ⟨_, rfl⟩
        rw [hgp] at d0 hin
        rw [hwt] at d1 hin
        obtain ⟨tk, htkk⟩ : ∃ t, tk0 + gp % 1000 = t := ⟨_, rfl⟩
        have htk2 : (play kk ds (j + 1)).1 = tk := by rw [hps, step_tick, htk0, hgp, htkk]
        have hlv2 : (play kk ds (j + 1)).2 = if code ls tk wt = 0 then addW kk ls tk wt else ls := by rw [hps, step_levs, htk0, hls, hgp, hwt, htkk]
        obtain ⟨C, hC⟩ : ∃ C : Int, ((code ls tk wt : Nat) : Int) = C := ⟨_, rfl⟩
        obtain ⟨KO, hKO⟩ : ∃ K, outK kk ls tk wt = K := ⟨_, rfl⟩
        obtain ⟨R, hRR⟩ : ∃ R, outL kk ls tk wt = R := ⟨_, rfl⟩
        have hok : C = 0 → KO = (kk : Int) ∧ R = (play kk ds (j + 1)).2 := fun e => by
          have hc : code ls tk wt = 0 := by omega
          rw [hlv2, if_pos hc, ← hKO, ← hRR]
          unfold outK outL
          rw [if_pos hc, if_pos hc]
          exact ⟨rfl, rfl⟩
        have hno : C ≠ 0 → (play kk ds (j + 1)).2 = ls := fun e => by rw [hlv2, if_neg (by omega)]
        have hmR : ∀ i, (lev R i).length ≤ 10000000 := fun i => by
          rw [← hRR]
          unfold outL
          split
          · have := (hmd.add (by assumption)).lev i
            omega
          · simp [lev]
        have hmL : R.length ≤ 1000000 := by
          rw [← hRR]
          unfold outL
          split
          · have := (hmd.add (by assumption)).len
            omega
          · simp
        have hadd : ∀ W, Below wr.heap.size wr W → Calls Try.prog 16 #[.agg #[.int .i64 (kk : Int), .int .i64 0, .slice A N c], .int .u64 (tk : Int), .int .u64 (wt : Int)] W fun e w' => ∃ A' c', e = .returned (.tuple #[.agg #[.int .i64 KO, .int .i64 0, .slice A' R.length c'], .int .i64 C]) ∧ Levs w' w'.heap.size (.slice A' R.length c') R ∧ Below W.heap.size W w' := by
          intro W hW
          have := add_any kk ls hmd tk wt (by omega) W A c (by rw [hN]; exact hL.grow hW)
          rw [hC, hKO, hRR, hN] at this
          exact this
        have hradd : ∀ W, Below wr.heap.size wr W → Calls Try.prog 17 #[.agg #[.int .i64 (kk : Int), .int .i64 0, .slice A2 N c2], .int .u64 (tk : Int), .int .u64 (wt : Int)] W fun e w' => ∃ A' c', e = .returned (.tuple #[.agg #[.int .i64 KO, .int .i64 0, .slice A' R.length c'], .int .i64 C]) ∧ Levs w' w'.heap.size (.slice A' R.length c') R ∧ Below W.heap.size W w' := by
          intro W hW
          have := radd_any kk ls hmd tk wt (by omega) W A2 c2 (by rw [hN]; exact hL2.grow hW)
          rw [hC, hKO, hRR, hN] at this
          exact this
        have hsm : ∀ (W : World) (Ap Aq : Option Addr) (cp cq : Nat), Levs W W.heap.size (.slice Ap R.length cp) R → Levs W W.heap.size (.slice Aq R.length cq) R → Calls Try.prog 13 #[.agg #[.int .i64 KO, .int .i64 0, .slice Ap R.length cp], .agg #[.int .i64 KO, .int .i64 0, .slice Aq R.length cq]] W fun e w' => e = .returned (.bool true) ∧ Below W.heap.size W w' := by
          intro W Ap Aq cp cq a1 a2
          have := lsame_any KO 0 KO 0 R R hmL hmR W Ap Aq cp cq a1 a2
          rw [show sameB KO 0 KO 0 R R = true by simp [sameB]] at this
          exact this
        have HOK := Lib.hid hok
        have HNO := Lib.hid hno
        have HADD := Lib.hid hadd
        have HRADD0 := Lib.hid hradd
        have HSM := Lib.hid hsm
        have HTK := Lib.hid htk2
        have HLV := Lib.hid hL
        have HLV2 := Lib.hid hL2
        have HBX := Lib.hid hbx
        have HBX2 := Lib.hid hbx2
        have HBEL := Lib.hid hbel
        have HN := Lib.hid hN
        have H0 := Lib.hid x0
        have H1 := Lib.hid x1
        have H2 := Lib.hid x2
        have HLH := Lib.hid hlx
        have HLH2 := Lib.hid hlx2
        have HLD := Lib.hid hbd
        have HD0 := Lib.hid d0
        have HD1 := Lib.hid d1
        have HTT := Lib.hid htkk
        have hjn : j + 1 ≤ nd := by omega
        have hj30 : j + 1 ≤ 30 := by omega
        have hjI : (j : Int) < (nd : Int) := by omega
        have g1 : decide (j < nd) = true := by simp; omega
        have g2 : decide ((j : Int) < 30) = true := by simp; omega
        have bt : (tk0 : Int) + (gp : Int) % 1000 ≤ 18446744073709551615 := by omega
        clear hok hno hadd hradd hsm htk2 hL hL2 hbx hbx2 hbel hbw hN x0 x1 x2 d1 hcd hdeed hps hlv2 hC hKO hRR hx hgp hwt hin htkk hmd hls htk0 hdl hmR hmL Y0 Y1 HBL HR0 HR1
        go_upto_region 9 with (fail)
        rw [show (tk0 : Int) + (gp : Int) % 1000 = (tk : Int) by have := HTT.out; omega]
        clear g1 g2 bt d0
        refine region_all (fr := ?frA) (fun i us W => match i with
            | 0 => us 0 = .agg #[.int .i64 (kk : Int), .int .i64 0, .slice A N c]
            | 1 => us 1 = .int .u64 (tk : Int)
            | 2 => us 2 = .slice (some ⟨bd, od, none⟩) nd cd
            | 3 => us 3 = .int .i64 (j : Int)
            | 4 => us 4 = .pointer (some ⟨bd, od + j * 2, none⟩)
            | 5 => us 5 = .pointer (some ⟨bd, od + j * 2 + 1, none⟩)
            | 6 => us 6 = .int .u64 (wt : Int)
            | 7 => Tp KO C R (us 7) W
            | 8 => Tp KO C R (us 8) W
            | 9 => Hp KO R (us 9) W
            | 10 => us 10 = .int .i64 C
            | 11 => Nw3 26 wr.heap.size (us 11) W
            | 12 => Yb3 26 wr.heap.size KO R (us 11) W
            | 13 => us 13 = .int .i64 C
            | _ => True) (fun j W W' => Ea 26 wr.heap.size 12 j W W') (fun W => Below wr.heap.size wr W) rfl ?hBA ?hfrA ?hlocA ?hstA ?hG0A ?hGA ?hopA ?hendA
        case hBA => kernel_rfl
        case hfrA =>
          intro us
          simp only [List.length_cons, List.length_nil, Nat.zero_add, Nat.reduceAdd, putO, dstO]
          go_simp
          rfl
        case hlocA =>
          intro i us us' W h hf
          match i with
          | 0 =>
            have e0 := h 0 (.inl rfl)
            try dsimp only at hf ⊢
            rw [e0] at hf
            exact hf
          | 1 =>
            have e1 := h 1 (.inl rfl)
            try dsimp only at hf ⊢
            rw [e1] at hf
            exact hf
          | 2 =>
            have e2 := h 2 (.inl rfl)
            try dsimp only at hf ⊢
            rw [e2] at hf
            exact hf
          | 3 =>
            have e3 := h 3 (.inl rfl)
            try dsimp only at hf ⊢
            rw [e3] at hf
            exact hf
          | 4 =>
            have e4 := h 4 (.inl rfl)
            try dsimp only at hf ⊢
            rw [e4] at hf
            exact hf
          | 5 =>
            have e5 := h 5 (.inl rfl)
            try dsimp only at hf ⊢
            rw [e5] at hf
            exact hf
          | 6 =>
            have e6 := h 6 (.inl rfl)
            try dsimp only at hf ⊢
            rw [e6] at hf
            exact hf
          | 7 =>
            have e7 := h 7 (.inl rfl)
            try dsimp only at hf ⊢
            rw [e7] at hf
            exact hf
          | 8 =>
            have e8 := h 8 (.inl rfl)
            try dsimp only at hf ⊢
            rw [e8] at hf
            exact hf
          | 9 =>
            have e9 := h 9 (.inl rfl)
            try dsimp only at hf ⊢
            rw [e9] at hf
            exact hf
          | 10 =>
            have e10 := h 10 (.inl rfl)
            try dsimp only at hf ⊢
            rw [e10] at hf
            exact hf
          | 11 =>
            have e11 := h 11 (.inl rfl)
            try dsimp only at hf ⊢
            rw [e11] at hf
            exact hf
          | 12 =>
            have e11 := h 11 (.inr (by kernel_rfl))
            try dsimp only at hf ⊢
            rw [e11] at hf
            exact hf
          | 13 =>
            have e13 := h 13 (.inl rfl)
            try dsimp only at hf ⊢
            rw [e13] at hf
            exact hf
          | n + 14 => trivial
        case hstA =>
          intro i j us W W' hne hw hi hj hE hf
          match i with
          | 0 => exact hf
          | 1 => exact hf
          | 2 => exact hf
          | 3 => exact hf
          | 4 => exact hf
          | 5 => exact hf
          | 6 => exact hf
          | 7 =>
            exact Tp.ea (by decide) (by decide) hE hf
          | 8 =>
            exact Tp.ea (by decide) (by decide) hE hf
          | 9 =>
            exact Hp.ea (by decide) (by decide) hE hf
          | 10 => exact hf
          | 11 =>
            exact Nw3.ea hE hf
          | 12 =>
            exact Yb3.ea hE (Ne.symm hne) hf
          | 13 => exact hf
          | n + 14 => trivial
        case hG0A =>
          exact (Below.refl _ wr).drew
        case hGA =>
          intro j W W' hE hg
          exact Ea.below hE hg hg.size
        case hopA =>
          intro i hi us W hg hd hq
          match i, hi with
          | 0, _ =>
            clear hd hq
            have qa := (hg.cell (p := ⟨bA, 0, none⟩) HLH.out).trans H0.out
            have qb := (hg.cell (p := ⟨bA, 1, none⟩) HLH.out).trans H1.out
            have qc := (hg.cell (p := ⟨bA, 2, none⟩) HLH.out).trans H2.out
            refine all_value rfl rfl (.agg #[.int .i64 (kk : Int), .int .i64 0, .slice A N c]) W (by go_simp) ?_ ?_
            · exact .inl (Grows.refl _)
            · rfl
          | 1, _ =>
            clear hd hq
            refine all_value rfl rfl (.int .u64 (tk : Int)) W (by go_simp) ?_ ?_
            · exact .inl (Grows.refl _)
            · rfl
          | 2, _ =>
            clear hd hq
            refine all_value rfl rfl (.slice (some ⟨bd, od, none⟩) nd cd) W (by go_simp) ?_ ?_
            · exact .inl (Grows.refl _)
            · rfl
          | 3, _ =>
            clear hd hq
            refine all_value rfl rfl (.int .i64 (j : Int)) W (by go_simp) ?_ ?_
            · exact .inl (Grows.refl _)
            · rfl
          | 4, _ =>
            have h2 : us 2 = .slice (some ⟨bd, od, none⟩) nd cd := hd 2 (by kernel_rfl)
            have h3 : us 3 = .int .i64 (j : Int) := hd 3 (by kernel_rfl)
            clear hd hq
            refine all_value rfl rfl (.pointer (some ⟨bd, od + j * 2, none⟩)) W (by go_simp) ?_ ?_
            · exact .inl (Grows.refl _)
            · rfl
          | 5, _ =>
            have h4 : us 4 = .pointer (some ⟨bd, od + j * 2, none⟩) := hd 4 (by kernel_rfl)
            clear hd hq
            refine all_value rfl rfl (.pointer (some ⟨bd, od + j * 2 + 1, none⟩)) W (by go_simp) ?_ ?_
            · exact .inl (Grows.refl _)
            · rfl
          | 6, _ =>
            have h5 : us 5 = .pointer (some ⟨bd, od + j * 2 + 1, none⟩) := hd 5 (by kernel_rfl)
            clear hd hq
            have qa := (hg.cell (p := ⟨bd, od + j * 2 + 1, none⟩) HLD.out).trans HD1.out
            refine all_value rfl rfl (.int .u64 (wt : Int)) W (by go_simp) ?_ ?_
            · exact .inl (Grows.refl _)
            · rfl
          | 7, _ =>
            have h0 : us 0 = .agg #[.int .i64 (kk : Int), .int .i64 0, .slice A N c] := hd 0 (by kernel_rfl)
            have h1 : us 1 = .int .u64 (tk : Int) := hd 1 (by kernel_rfl)
            have h6 : us 6 = .int .u64 (wt : Int) := hd 6 (by kernel_rfl)
            clear hd hq
            refine all_call rfl rfl 16 #[.agg #[.int .i64 (kk : Int), .int .i64 0, .slice A N c], .int .u64 (tk : Int), .int .u64 (wt : Int)] (by go_simp) ?_
            exact (HADD.out W hg).mono fun _ W' ⟨A', c', he, hL, hb⟩ => ⟨_, he, .inl hb, ⟨A', c', rfl, hL⟩⟩
          | 8, _ =>
            have h7 : Tp KO C R (us 7) W := hd 7 (by kernel_rfl)
            clear hd hq
            refine all_value rfl rfl (us 7) W (by go_simp) ?_ ?_
            · exact .inl (Grows.refl _)
            · exact h7
          | 9, _ =>
            have h8 : Tp KO C R (us 8) W := hd 8 (by kernel_rfl)
            clear hd hq
            obtain ⟨A', c', e8, hL⟩ := h8
            refine all_value rfl rfl (.agg #[.int .i64 KO, .int .i64 0, .slice A' R.length c']) W (by go_simp) ?_ ?_
            · exact .inl (Grows.refl _)
            · exact ⟨A', c', rfl, hL⟩
          | 10, _ =>
            have h8 : Tp KO C R (us 8) W := hd 8 (by kernel_rfl)
            clear hd hq
            obtain ⟨A', c', e8, hL⟩ := h8
            refine all_value rfl rfl (.int .i64 C) W (by go_simp) ?_ ?_
            · exact .inl (Grows.refl _)
            · rfl
          | 11, _ =>
            clear hd hq
            refine all_value rfl rfl (.pointer (some ⟨W.heap.size, 0, none⟩)) (W.alloc (.cells #[.int .i64 0, .int .i64 0, .slice none 0 0] 26)) (by go_simp) ?_ ?_
            · exact .inl (Grows.alloc _ _)
            · exact ⟨W.heap.size, _, _, _, rfl, hg.size, World.alloc_heap_new _ _⟩
          | 12, _ =>
            have h11 : Nw3 26 wr.heap.size (us 11) W := hd 11 (by kernel_rfl)
            have h9 : Hp KO R (us 9) W := hd 9 (by kernel_rfl)
            clear hd hq
            obtain ⟨A', c', e9, hL⟩ := h9
            obtain ⟨p, x0, x1, x2, e11, hp, hblk⟩ := h11
            obtain ⟨q0, q1, q2⟩ := box3 hblk
            have f0 : ∀ i, W.frozen? ⟨p, i, none⟩ = false := fun i => by simp [World.frozen?, hblk]
            have HBK := Lib.hid hblk
            have hlp := lt_of hblk
            clear hblk
            refine all_skip rfl rfl (((W.setCell ⟨p, 0, none⟩ (.int .i64 KO)).setCell ⟨p, 1, none⟩ (.int .i64 0)).setCell ⟨p, 2, none⟩ (.slice A' R.length c')) (by go_simp) ?_ ?_
            · exact .inr ⟨rfl, st3_set hp HBK.out _ _ _⟩
            · exact ⟨p, A', c', e11, hp, set3 HBK.out _ _ _, levs_set3 (by decide) (by decide) HBK.out _ _ _ hL⟩
          | 13, _ =>
            have h10 : us 10 = .int .i64 C := hd 10 (by kernel_rfl)
            clear hd hq
            refine all_value rfl rfl (.int .i64 C) W (by go_simp) ?_ ?_
            · exact .inl (Grows.refl _)
            · rfl
          | n + 14, h => exact absurd h (by simp)
        case hendA =>
          intro us W hg hf
          have h12 : Yb3 26 wr.heap.size KO R (us 11) W := hf 12 (by simp)
          have h13 : us 13 = .int .i64 C := hf 13 (by simp)
          clear hf
          obtain ⟨p1, Ap, cp, e11, hp1, hblk, hLp⟩ := h12
          rw [h13, e11]
          rename World => wa
          have hbA := (hg.block bA HLH.out).trans HBX.out
          have hbB := (hg.block (bA + 1) HLH2.out).trans HBX2.out
          obtain ⟨a0, a1, a2⟩ := box3 hbB
          have G0 := Lib.hid a0
          have G1 := Lib.hid a1
          have G2 := Lib.hid a2
          have GLH := Lib.hid (lt_of hbB)
          have GLD := Lib.hid (Nat.lt_of_lt_of_le HLD.out hg.size)
          have GD1 := Lib.hid ((hg.cell (p := ⟨bd, od + j * 2 + 1, none⟩) HLD.out).trans HD1.out)
          have HBA9 := Lib.hid hbA
          have HBB9 := Lib.hid hbB
          have HK1 := Lib.hid hblk
          have LP := Lib.hid (lt_of hblk)
          have G9 := Lib.hid (show bA + 2 ≤ p1 by have := HLH2.out; omega)
          have HLP := Lib.hid hLp
          have HGW9 := Lib.hid (HBEL.out.trans (hg.mono (by have := HLH.out; omega)))
          have HLW9 := Lib.hid (HLV.out.grow hg)
          have HLW29 := Lib.hid (HLV2.out.grow hg)
          have HRADD := Lib.hid (fun W' (hW' : Below wa.heap.size wa W') => HRADD0.out W' (thn hg hW'))
          clear hbA hbB a0 a1 a2 hblk hLp hg e11 h13 HADD HRADD0 H0 H1 H2
          go_upto_region 10 with (fail)
          refine region_all (fr := ?frB) (fun i us W => match i with
              | 0 => us 0 = .agg #[.int .i64 (kk : Int), .int .i64 0, .slice A2 N c2]
              | 1 => us 1 = .int .u64 (tk : Int)
              | 2 => us 2 = .slice (some ⟨bd, od, none⟩) nd cd
              | 3 => us 3 = .int .i64 (j : Int)
              | 4 => us 4 = .pointer (some ⟨bd, od + j * 2, none⟩)
              | 5 => us 5 = .pointer (some ⟨bd, od + j * 2 + 1, none⟩)
              | 6 => us 6 = .int .u64 (wt : Int)
              | 7 => Tp KO C R (us 7) W
              | 8 => Tp KO C R (us 8) W
              | 9 => Hp KO R (us 9) W
              | 10 => us 10 = .int .i64 C
              | 11 => Nw3 27 wa.heap.size (us 11) W
              | 12 => Yb3 27 wa.heap.size KO R (us 11) W
              | 13 => us 13 = .int .i64 C
              | _ => True) (fun j W W' => Ea 27 wa.heap.size 12 j W W') (fun W => Below wa.heap.size wa W) rfl ?hBB ?hfrB ?hlocB ?hstB ?hG0B ?hGB ?hopB ?hendB
          case hBB => kernel_rfl
          case hfrB =>
            intro us
            simp only [List.length_cons, List.length_nil, Nat.zero_add, Nat.reduceAdd, putO, dstO]
            go_simp
            rfl
          case hlocB =>
            intro i us us' W h hf
            match i with
            | 0 =>
              have e0 := h 0 (.inl rfl)
              try dsimp only at hf ⊢
              rw [e0] at hf
              exact hf
            | 1 =>
              have e1 := h 1 (.inl rfl)
              try dsimp only at hf ⊢
              rw [e1] at hf
              exact hf
            | 2 =>
              have e2 := h 2 (.inl rfl)
              try dsimp only at hf ⊢
              rw [e2] at hf
              exact hf
            | 3 =>
              have e3 := h 3 (.inl rfl)
              try dsimp only at hf ⊢
              rw [e3] at hf
              exact hf
            | 4 =>
              have e4 := h 4 (.inl rfl)
              try dsimp only at hf ⊢
              rw [e4] at hf
              exact hf
            | 5 =>
              have e5 := h 5 (.inl rfl)
              try dsimp only at hf ⊢
              rw [e5] at hf
              exact hf
            | 6 =>
              have e6 := h 6 (.inl rfl)
              try dsimp only at hf ⊢
              rw [e6] at hf
              exact hf
            | 7 =>
              have e7 := h 7 (.inl rfl)
              try dsimp only at hf ⊢
              rw [e7] at hf
              exact hf
            | 8 =>
              have e8 := h 8 (.inl rfl)
              try dsimp only at hf ⊢
              rw [e8] at hf
              exact hf
            | 9 =>
              have e9 := h 9 (.inl rfl)
              try dsimp only at hf ⊢
              rw [e9] at hf
              exact hf
            | 10 =>
              have e10 := h 10 (.inl rfl)
              try dsimp only at hf ⊢
              rw [e10] at hf
              exact hf
            | 11 =>
              have e11 := h 11 (.inl rfl)
              try dsimp only at hf ⊢
              rw [e11] at hf
              exact hf
            | 12 =>
              have e11 := h 11 (.inr (by kernel_rfl))
              try dsimp only at hf ⊢
              rw [e11] at hf
              exact hf
            | 13 =>
              have e13 := h 13 (.inl rfl)
              try dsimp only at hf ⊢
              rw [e13] at hf
              exact hf
            | n + 14 => trivial
          case hstB =>
            intro i j us W W' hne hw hi hj hE hf
            match i with
            | 0 => exact hf
            | 1 => exact hf
            | 2 => exact hf
            | 3 => exact hf
            | 4 => exact hf
            | 5 => exact hf
            | 6 => exact hf
            | 7 =>
              exact Tp.ea (by decide) (by decide) hE hf
            | 8 =>
              exact Tp.ea (by decide) (by decide) hE hf
            | 9 =>
              exact Hp.ea (by decide) (by decide) hE hf
            | 10 => exact hf
            | 11 =>
              exact Nw3.ea hE hf
            | 12 =>
              exact Yb3.ea hE (Ne.symm hne) hf
            | 13 => exact hf
            | n + 14 => trivial
          case hG0B =>
            exact (Below.refl _ wa).drew
          case hGB =>
            intro j W W' hE hg
            exact Ea.below hE hg hg.size
          case hopB =>
            intro i hi us W hg hd hq
            match i, hi with
            | 0, _ =>
              clear hd hq
              have qa := (hg.cell (p := ⟨bA + 1, 0, none⟩) GLH.out).trans G0.out
              have qb := (hg.cell (p := ⟨bA + 1, 1, none⟩) GLH.out).trans G1.out
              have qc := (hg.cell (p := ⟨bA + 1, 2, none⟩) GLH.out).trans G2.out
              refine all_value rfl rfl (.agg #[.int .i64 (kk : Int), .int .i64 0, .slice A2 N c2]) W (by go_simp) ?_ ?_
              · exact .inl (Grows.refl _)
              · rfl
            | 1, _ =>
              clear hd hq
              refine all_value rfl rfl (.int .u64 (tk : Int)) W (by go_simp) ?_ ?_
              · exact .inl (Grows.refl _)
              · rfl
            | 2, _ =>
              clear hd hq
              refine all_value rfl rfl (.slice (some ⟨bd, od, none⟩) nd cd) W (by go_simp) ?_ ?_
              · exact .inl (Grows.refl _)
              · rfl
            | 3, _ =>
              clear hd hq
              refine all_value rfl rfl (.int .i64 (j : Int)) W (by go_simp) ?_ ?_
              · exact .inl (Grows.refl _)
              · rfl
            | 4, _ =>
              have h2 : us 2 = .slice (some ⟨bd, od, none⟩) nd cd := hd 2 (by kernel_rfl)
              have h3 : us 3 = .int .i64 (j : Int) := hd 3 (by kernel_rfl)
              clear hd hq
              refine all_value rfl rfl (.pointer (some ⟨bd, od + j * 2, none⟩)) W (by go_simp) ?_ ?_
              · exact .inl (Grows.refl _)
              · rfl
            | 5, _ =>
              have h4 : us 4 = .pointer (some ⟨bd, od + j * 2, none⟩) := hd 4 (by kernel_rfl)
              clear hd hq
              refine all_value rfl rfl (.pointer (some ⟨bd, od + j * 2 + 1, none⟩)) W (by go_simp) ?_ ?_
              · exact .inl (Grows.refl _)
              · rfl
            | 6, _ =>
              have h5 : us 5 = .pointer (some ⟨bd, od + j * 2 + 1, none⟩) := hd 5 (by kernel_rfl)
              clear hd hq
              have qa := (hg.cell (p := ⟨bd, od + j * 2 + 1, none⟩) GLD.out).trans GD1.out
              refine all_value rfl rfl (.int .u64 (wt : Int)) W (by go_simp) ?_ ?_
              · exact .inl (Grows.refl _)
              · rfl
            | 7, _ =>
              have h0 : us 0 = .agg #[.int .i64 (kk : Int), .int .i64 0, .slice A2 N c2] := hd 0 (by kernel_rfl)
              have h1 : us 1 = .int .u64 (tk : Int) := hd 1 (by kernel_rfl)
              have h6 : us 6 = .int .u64 (wt : Int) := hd 6 (by kernel_rfl)
              clear hd hq
              refine all_call rfl rfl 17 #[.agg #[.int .i64 (kk : Int), .int .i64 0, .slice A2 N c2], .int .u64 (tk : Int), .int .u64 (wt : Int)] (by go_simp) ?_
              exact (HRADD.out W hg).mono fun _ W' ⟨A', c', he, hL, hb⟩ => ⟨_, he, .inl hb, ⟨A', c', rfl, hL⟩⟩
            | 8, _ =>
              have h7 : Tp KO C R (us 7) W := hd 7 (by kernel_rfl)
              clear hd hq
              refine all_value rfl rfl (us 7) W (by go_simp) ?_ ?_
              · exact .inl (Grows.refl _)
              · exact h7
            | 9, _ =>
              have h8 : Tp KO C R (us 8) W := hd 8 (by kernel_rfl)
              clear hd hq
              obtain ⟨A', c', e8, hL⟩ := h8
              refine all_value rfl rfl (.agg #[.int .i64 KO, .int .i64 0, .slice A' R.length c']) W (by go_simp) ?_ ?_
              · exact .inl (Grows.refl _)
              · exact ⟨A', c', rfl, hL⟩
            | 10, _ =>
              have h8 : Tp KO C R (us 8) W := hd 8 (by kernel_rfl)
              clear hd hq
              obtain ⟨A', c', e8, hL⟩ := h8
              refine all_value rfl rfl (.int .i64 C) W (by go_simp) ?_ ?_
              · exact .inl (Grows.refl _)
              · rfl
            | 11, _ =>
              clear hd hq
              refine all_value rfl rfl (.pointer (some ⟨W.heap.size, 0, none⟩)) (W.alloc (.cells #[.int .i64 0, .int .i64 0, .slice none 0 0] 27)) (by go_simp) ?_ ?_
              · exact .inl (Grows.alloc _ _)
              · exact ⟨W.heap.size, _, _, _, rfl, hg.size, World.alloc_heap_new _ _⟩
            | 12, _ =>
              have h11 : Nw3 27 wa.heap.size (us 11) W := hd 11 (by kernel_rfl)
              have h9 : Hp KO R (us 9) W := hd 9 (by kernel_rfl)
              clear hd hq
              obtain ⟨A', c', e9, hL⟩ := h9
              obtain ⟨p, x0, x1, x2, e11, hp, hblk⟩ := h11
              obtain ⟨q0, q1, q2⟩ := box3 hblk
              have f0 : ∀ i, W.frozen? ⟨p, i, none⟩ = false := fun i => by simp [World.frozen?, hblk]
              have HBK := Lib.hid hblk
              have hlp := lt_of hblk
              clear hblk
              refine all_skip rfl rfl (((W.setCell ⟨p, 0, none⟩ (.int .i64 KO)).setCell ⟨p, 1, none⟩ (.int .i64 0)).setCell ⟨p, 2, none⟩ (.slice A' R.length c')) (by go_simp) ?_ ?_
              · exact .inr ⟨rfl, st3_set hp HBK.out _ _ _⟩
              · exact ⟨p, A', c', e11, hp, set3 HBK.out _ _ _, levs_set3 (by decide) (by decide) HBK.out _ _ _ hL⟩
            | 13, _ =>
              have h10 : us 10 = .int .i64 C := hd 10 (by kernel_rfl)
              clear hd hq
              refine all_value rfl rfl (.int .i64 C) W (by go_simp) ?_ ?_
              · exact .inl (Grows.refl _)
              · rfl
            | n + 14, h => exact absurd h (by simp)
          case hendB =>
            intro us W hg hf
            have h12 : Yb3 27 wa.heap.size KO R (us 11) W := hf 12 (by simp)
            have h13 : us 13 = .int .i64 C := hf 13 (by simp)
            clear hf
            obtain ⟨p2, Aq, cq, e11, hp2, hblk2, hLq⟩ := h12
            rw [h13, e11]
            have hbA := (hg.block bA (by have := LP.out; have := G9.out; omega)).trans HBA9.out
            have hbB := (hg.block (bA + 1) GLH.out).trans HBB9.out
            have hblk1 := (hg.block p1 LP.out).trans HK1.out
            obtain ⟨y0, y1, y2⟩ := box3 hbA
            obtain ⟨v0, v1, v2⟩ := box3 hbB
            obtain ⟨z0, z1, z2⟩ := box3 hblk1
            obtain ⟨s0, s1, s2⟩ := box3 hblk2
            have lA := lt_of hbA
            have lB := lt_of hbB
            have l1 := lt_of hblk1
            have l2 := lt_of hblk2
            have HBA := Lib.hid hbA
            have HBB := Lib.hid hbB
            have HK1' := Lib.hid hblk1
            have HK2' := Lib.hid hblk2
            have HLP1 := Lib.hid (HLP.out.grow hg)
            have HLP2 := Lib.hid hLq
            have n1 : p1 ≠ bA := by have := G9.out; omega
            have n2 : p1 ≠ bA + 1 := by have := G9.out; omega
            have n3 : p2 ≠ bA := by have := LP.out; have := G9.out; omega
            have n4 : p2 ≠ bA + 1 := by have := LP.out; have := G9.out; omega
            have HGW := Lib.hid (HGW9.out.trans (hg.mono (by have := LP.out; have := G9.out; omega)))
            have HLW := Lib.hid (HLW9.out.grow hg)
            have HLW2 := Lib.hid (HLW29.out.grow hg)
            clear hbA hbB hblk1 hblk2 hLq hg e11 h13
            by_cases hc : C = 0
            · have hR := HOK.out hc
              have HR1 := Lib.hid hR
              have hs := HSM.out
              subst hc
              clear hR
              go_upto_region 14 with (go_at_call 13; refine (HSM.out W Ap Aq cp cq HLP1.out HLP2.out).mono ?_; rintro e w5 ⟨rfl, hb5⟩; have HB5 := Lib.hid hb5; clear hb5)
              clear hs
              have hb5 := HB5.out
              have hbA := (hb5.block _ lA).trans HBA.out
              have hbB := (hb5.block _ lB).trans HBB.out
              have hk1 := (hb5.block _ l1).trans HK1'.out
              have hk2 := (hb5.block _ l2).trans HK2'.out
              clear y0 y1 y2 v0 v1 v2 z0 z1 z2 s0 s1 s2
              obtain ⟨y0, y1, y2⟩ := box3 hbA
              obtain ⟨v0, v1, v2⟩ := box3 hbB
              obtain ⟨z0, z1, z2⟩ := box3 hk1
              obtain ⟨s0, s1, s2⟩ := box3 hk2
              have fA : ∀ i, w5.frozen? ⟨bA, i, none⟩ = false := fun i => by simp [World.frozen?, hbA]
              have fB : ∀ i, w5.frozen? ⟨bA + 1, i, none⟩ = false := fun i => by simp [World.frozen?, hbB]
              have lA5 := lt_of hbA
              have lB5 := lt_of hbB
              have l15 := lt_of hk1
              have l25 := lt_of hk2
              have HA5 := Lib.hid hbA
              have HBB5 := Lib.hid hbB
              have HL15 := Lib.hid (HLP1.out.grow hb5)
              have HL25 := Lib.hid (HLP2.out.grow hb5)
              clear hbA hbB hk1 hk2 hb5
              go_wp2
              have hA6 := set3 HA5.out (.int .i64 KO) (.int .i64 0) (.slice Ap R.length cp)
              have hB6 : (((w5.setCell ⟨bA, 0, none⟩ (.int .i64 KO)).setCell ⟨bA, 1, none⟩ (.int .i64 0)).setCell ⟨bA, 2, none⟩ (.slice Ap R.length cp)).heap[bA + 1]? = _ := (keep3 (by omega) _ _ _).trans HBB5.out
              have hL16 := levs_set3 (by decide) (by decide) HA5.out (.int .i64 KO) (.int .i64 0) (.slice Ap R.length cp) HL15.out
              have hL26 := levs_set3 (by decide) (by decide) HA5.out (.int .i64 KO) (.int .i64 0) (.slice Ap R.length cp) HL25.out
              have hL17 := levs_set3 (by decide) (by decide) hB6 (.int .i64 KO) (.int .i64 0) (.slice Aq R.length cq) hL16
              have hL27 := levs_set3 (by decide) (by decide) hB6 (.int .i64 KO) (.int .i64 0) (.slice Aq R.length cq) hL26
              have hA7 := (keep3 (W := ((w5.setCell ⟨bA, 0, none⟩ (.int .i64 KO)).setCell ⟨bA, 1, none⟩ (.int .i64 0)).setCell ⟨bA, 2, none⟩ (.slice Ap R.length cp)) (p := bA + 1) (q := bA) (by omega) (.int .i64 KO) (.int .i64 0) (.slice Aq R.length cq)).trans hA6
              have hB7 := set3 hB6 (.int .i64 KO) (.int .i64 0) (.slice Aq R.length cq)
              refine ⟨⟨j + 1, Ap, cp, Aq, cq, by go_num, by rw [HTK.out], by simp, hj30, hjn, ?_, ?_, ?_, ?_, ?_⟩, by simp [intOf]; omega⟩
              · rw [← HR1.out.2]
                exact HR1.out.1 ▸ hA7
              · rw [← HR1.out.2]
                exact hL17
              · rw [← HR1.out.2]
                exact HR1.out.1 ▸ hB7
              · rw [← HR1.out.2]
                exact hL27
              · exact below3 (below3 (HGW.out.trans (HB5.out.mono (by omega))) (Nat.le_refl _) _ _ _) (by omega) _ _ _
            · have hR := HNO.out hc
              have HR1 := Lib.hid hR
              have d : (C == 0) = false := by simpa using hc
              clear hR hc
              go_wp2
              refine ⟨⟨j + 1, A, c, A2, c2, by go_num, by rw [HTK.out], by simp, hj30, hjn, ?_, ?_, ?_, ?_, HGW.out⟩, by simp [intOf]; omega⟩
              · rw [HR1.out, HN.out]
                exact HBA.out
              · rw [HR1.out, HN.out]
                exact HLW.out
              · rw [HR1.out, HN.out]
                exact HBB.out
              · rw [HR1.out, HN.out]
                exact HLW2.out
      · have hjd : j = doneN ds := by unfold doneN; omega
        subst hjd
        obtain ⟨jj, hjj⟩ : ∃ jj, doneN ds = jj := ⟨_, rfl⟩
        rw [hjj] at hlt hj30 hjn hls ⊢
        have hr0 := (hbel.block w.heap.size (by omega)).trans HR0.out
        have hr1 := (hbel.block (w.heap.size + 1) (by omega)).trans HR1.out
        obtain ⟨a0, a1, a2⟩ := box3 hbx2
        obtain ⟨y0, y1, y2⟩ := box3 hr0
        obtain ⟨v0, v1, v2⟩ := box3 hr1
        have f0 : ∀ i, wr.frozen? ⟨w.heap.size, i, none⟩ = false := fun i => by simp [World.frozen?, hr0]
        have f1 : ∀ i, wr.frozen? ⟨w.heap.size + 1, i, none⟩ = false := fun i => by simp [World.frozen?, hr1]
        have l0 := lt_of hr0
        have l1 := lt_of hr1
        have e1 : bA ≠ w.heap.size := by omega
        have e2 : bA ≠ w.heap.size + 1 := by omega
        have e3 : bA + 1 ≠ w.heap.size := by omega
        have e4 : bA + 1 ≠ w.heap.size + 1 := by omega
        have fin : ∀ W : World, Below w.heap.size w W → Levs W W.heap.size (.slice A N c) ls → Levs W W.heap.size (.slice A2 N c2) ls → ∃ A' c' A2' c2', Ending.returned (.tuple #[hv kk 0 (.slice A N c), hv kk 0 (.slice A2 N c2), .bool true]) = Ending.returned (.tuple #[hv kk 0 (.slice A' (play kk ds (doneN ds)).2.length c'), hv kk 0 (.slice A2' (play kk ds (doneN ds)).2.length c2'), .bool true]) ∧ Levs W W.heap.size (.slice A' (play kk ds (doneN ds)).2.length c') (play kk ds (doneN ds)).2 ∧ Levs W W.heap.size (.slice A2' (play kk ds (doneN ds)).2.length c2') (play kk ds (doneN ds)).2 ∧ Below w.heap.size w W := by
          intro W h1 h2 h3
          rw [hjj, hls, hN]
          exact ⟨A, c, A2, c2, rfl, h2, h3, h1⟩
        have HFIN := Lib.hid fin
        have HR0' := Lib.hid hr0
        have HR1' := Lib.hid hr1
        have HLA := Lib.hid hL
        have HLB := Lib.hid hL2
        have HBW := Lib.hid hbw
        clear fin hjj hbx hbx2 hbel hbw hN hls htk0 htk hmd hdl hL hL2 hr0 hr1 Y0 Y1 HBL
        have c01 : decide (jj < nd) = false ∨ (decide (jj < nd) = true ∧ decide ((jj : Int) < 30) = false) := by
          by_cases h1 : jj < nd
          · exact .inr ⟨by simpa using h1, by simp; omega⟩
          · exact .inl (by simpa using h1)
        clear hlt
        rcases c01 with g1 | ⟨g1, g2⟩
        all_goals
          go_upto_region 16 with (fail)
          go_region
          all_goals
            go_wp2
            have s1 := set3 HR0'.out (.int .i64 (kk : Int)) (.int .i64 0) (.slice A N c)
            have s2 := (keep3 (W := wr) (p := w.heap.size) (q := w.heap.size + 1) (by omega) (.int .i64 (kk : Int)) (.int .i64 0) (.slice A N c)).trans HR1'.out
            have s3 := set3 s2 (.int .i64 (kk : Int)) (.int .i64 0) (.slice A2 N c2)
            have s4 := (keep3 (W := ((wr.setCell ⟨w.heap.size, 0, none⟩ (.int .i64 (kk : Int))).setCell ⟨w.heap.size, 1, none⟩ (.int .i64 0)).setCell ⟨w.heap.size, 2, none⟩ (.slice A N c)) (p := w.heap.size + 1) (q := w.heap.size) (by omega) (.int .i64 (kk : Int)) (.int .i64 0) (.slice A2 N c2)).trans s1
            have L1 := levs_set3 (by decide) (by decide) HR0'.out (.int .i64 (kk : Int)) (.int .i64 0) (.slice A N c) HLA.out
            have L2 := levs_set3 (by decide) (by decide) HR0'.out (.int .i64 (kk : Int)) (.int .i64 0) (.slice A N c) HLB.out
            have L3 := levs_set3 (by decide) (by decide) s2 (.int .i64 (kk : Int)) (.int .i64 0) (.slice A2 N c2) L1
            have L4 := levs_set3 (by decide) (by decide) s2 (.int .i64 (kk : Int)) (.int .i64 0) (.slice A2 N c2) L2
            have hb := below3 (below3 HBW.out (b := w.heap.size) (Nat.le_refl _) (.int .i64 (kk : Int)) (.int .i64 0) (.slice A N c)) (b := w.heap.size + 1) (by omega) (.int .i64 (kk : Int)) (.int .i64 0) (.slice A2 N c2)
            generalize hW6 : World.drew _ = W6
            have s5 : W6.heap[w.heap.size]? = some (.cells #[.int .i64 (kk : Int), .int .i64 0, .slice A N c] 26) := by rw [← hW6]; exact heap_drew s4
            have s6 : W6.heap[w.heap.size + 1]? = some (.cells #[.int .i64 (kk : Int), .int .i64 0, .slice A2 N c2] 27) := by rw [← hW6]; exact heap_drew s3
            have fin := HFIN.out W6 (by rw [← hW6]; exact hb.drew) (by rw [← hW6]; exact levs_drew L3) (by rw [← hW6]; exact levs_drew L4)
            obtain ⟨t0, t1, t2⟩ := box3 s5
            obtain ⟨t3, t4, t5⟩ := box3 s6
            clear s1 s2 s3 s4 s5 s6 L1 L2 L3 L4 hb hW6 y0 y1 y2 v0 v1 v2 a0 a1 a2 x0 x1 x2 f0 f1
            refine bodyPost_ret (v := .tuple #[hv kk 0 (.slice A N c), hv kk 0 (.slice A2 N c2), .bool true]) (by simp [results, Try.results10, go_sem, t0, t1, t2, t3, t4, t5]) rfl fin

end Go.Proofs.Ytimlmaincblkoaa
