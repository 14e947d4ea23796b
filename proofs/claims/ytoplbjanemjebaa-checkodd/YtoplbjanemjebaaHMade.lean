/- The contract of skylightref06.Made. -/
import Derived.Test.YtoplbjanemjebaaHReg
namespace Go.Proofs.Ytoplbjanemjebaa
open Go.RowKit Go.Shelf Go.Proofs.Rw Go.Proofs.Lh Go.Proofs.Rf

/-- The K that a law takes. -/
def kOf (k : Int) : Nat := (2 + max k 0 % 30).toNat
theorem kOf_eq (k : Int) : ((kOf k : Nat) : Int) = 2 + max k 0 % 30 := by unfold kOf; omega
theorem kOf_le (k : Int) : 2 ≤ kOf k ∧ kOf k ≤ 31 := by unfold kOf; omega
/-- How many deeds are done. -/
def doneN (ds : List Sp) : Nat := min ds.length 30

/-- Deeds in memory. -/
def Deeds (w : World) (A : Option Addr) (n c : Nat) (ds : List Sp) : Prop := ds.length = n ∧ Lies spL w w.heap.size (.slice A n c) ds ∧ ∀ x ∈ ds, x.1 < 18446744073709551616 ∧ x.2 < 18446744073709551616
theorem Deeds.grow {w w' : World} {A : Option Addr} {n c : Nat} {ds : List Sp} (h : Deeds w A n c ds) (hb : Below w.heap.size w w') : Deeds w' A n c ds := ⟨h.1, h.2.1.grow hb, h.2.2⟩

set_option maxRecDepth 100000 in
set_option maxHeartbeats 4000000 in
theorem rmade_any (k : Int) (k0 : -9223372036854775808 ≤ k) (k1 : k ≤ 9223372036854775807) (ds : List Sp) (w : World) (Ad : Option Addr) (nd cd : Nat) (hD : Deeds w Ad nd cd ds) :
    Calls Try.prog 17 #[.int .i64 k, .slice Ad nd cd] w fun e w' => ∃ A c, e = .returned (hv (kOf k) 0 (.slice A (play (kOf k) ds (doneN ds)).2.length c)) ∧ Levs w' w'.heap.size (.slice A (play (kOf k) ds (doneN ds)).2.length c) (play (kOf k) ds (doneN ds)).2 ∧ Below w.heap.size w w' := by
  obtain ⟨kk, hkk⟩ : ∃ kk, kOf k = kk := ⟨_, rfl⟩
  have hke := kOf_eq k
  have hkl := kOf_le k
  rw [hkk] at hke hkl ⊢
  have HKE := Lib.hid hke
  have HD := Lib.hid hD
  clear hkk hke hD
  obtain ⟨W0, hW0, hsz, p0, p1, hB0⟩ := heap_two w (.cells #[.int .i64 0, .int .i64 0, .slice none 0 0] 29) (.cells #[.int .i64 (kk : Int), .int .i64 0, .slice none 0 0] 29)
  have HW0 := Lib.hid hW0
  have HB0 := Lib.hid hB0
  have P0 := Lib.hid p0
  have P1 := Lib.hid p1
  have HSZ := Lib.hid hsz
  clear hW0 hB0 p0 p1 hsz
  go_enter Try.func17, Try.ntmps17
  go_upto_region 1 with (fail)
  go_cut [5] from 10 to 14 (fun s5 wx => s5 = .pointer (some ⟨w.heap.size + 1, 0, none⟩) ∧ W0 = wx)
  case first =>
    by_cases h : 0 ≤ k
    · go_wp2
      go_meet
      case rel =>
        refine ⟨rfl, ?_⟩
        rw [HW0.out, show (2 + k % 30 : Int) = (kk : Int) by have := HKE.out; rw [this, Int.max_eq_left h]]
    · go_wp2
      go_meet
      case rel =>
        refine ⟨rfl, ?_⟩
        have e : (kk : Int) = 2 := by have := HKE.out; rw [this]; omega
        rw [HW0.out, e]
  case rest =>
    obtain ⟨rfl, rfl⟩ := hcut
    clear HW0 HKE
    go_wp2
    go_loopw [6, 7] (fun s6 s7 wr => ∃ (j : Nat) (A : Option Addr) (c : Nat), s7 = .int .i64 (j : Int) ∧ s6 = .int .u64 ((play kk ds j).1 : Int) ∧ j ≤ 30 ∧ j ≤ nd ∧ wr.heap[w.heap.size + 1]? = some (.cells #[.int .i64 (kk : Int), .int .i64 0, .slice A (play kk ds j).2.length c] 29) ∧ Levs wr wr.heap.size (.slice A (play kk ds j).2.length c) (play kk ds j).2 ∧ Below (w.heap.size + 1) W0 wr) (fun _ s7 _ => 30 - (intOf s7).toNat)
    case atStart =>
      refine ⟨0, none, 0, rfl, ?_, by omega, Nat.zero_le _, ?_, ?_, Below.refl _ _⟩
      · rw [play_zero]
        rfl
      · rw [play_zero]
        exact P1.out
      · rw [play_zero]
        exact Levs.nil
    case round =>
      obtain ⟨j, A, c, rfl, rfl, hj30, hjn, hbx, hL, hbel⟩ := hrel
      have hbw : Below w.heap.size w wr := HB0.out.trans (hbel.mono (by omega))
      have hdl := HD.out.1
      have hmd := play_made (k := kk) hkl.1 (by omega) ds j (by omega)
      have htk := play_tick kk ds j (by omega)
      obtain ⟨tk0, htk0⟩ : ∃ t, (play kk ds j).1 = t := ⟨_, rfl⟩
      obtain ⟨ls, hls⟩ : ∃ l, (play kk ds j).2 = l := ⟨_, rfl⟩
      obtain ⟨N, hN⟩ : ∃ n, ls.length = n := ⟨_, rfl⟩
      rw [htk0] at htk ⊢
      rw [hls, hN] at hbx hL
      rw [hls] at hmd
      obtain ⟨x0, x1, x2⟩ := box3 hbx
      have hlx := lt_of hbx
      by_cases hlt : j < nd ∧ j < 30
      · have hdeed := (HD.out.grow hbw)
        obtain ⟨bd, od, rfl, hbd, -, hcd⟩ := sp_at hdeed.2.1 (by omega)
        obtain ⟨d0, d1⟩ := hcd j (by omega)
        have hin := hdeed.2.2 (ds[j]'(by omega)) (List.getElem_mem _)
        have hps := play_succ kk ds j (by omega)
        obtain ⟨x, hx⟩ : ∃ x, ds[j]'(by omega) = x := ⟨_, rfl⟩
        rw [hx] at d0 d1 hin hps
        obtain ⟨gp, hgp⟩ : ∃ g, x.1 = g := ⟨_, rfl⟩
        obtain ⟨wt, hwt⟩ : ∃ g, x.2 = g := ⟨_, rfl⟩
        rw [hgp] at d0 hin
        rw [hwt] at d1 hin
        obtain ⟨tk, htkk⟩ : ∃ t, tk0 + gp % 1000 = t := ⟨_, rfl⟩
        have htk2 : (play kk ds (j + 1)).1 = tk := by rw [hps, step_tick, htk0, hgp, htkk]
        have hlv2 : (play kk ds (j + 1)).2 = if code ls tk wt = 0 then addW kk ls tk wt else ls := by rw [hps, step_levs, htk0, hls, hgp, hwt, htkk]
        obtain ⟨C, hC⟩ : ∃ C : Int, ((code ls tk wt : Nat) : Int) = C := ⟨_, rfl⟩
        obtain ⟨KO, hKO⟩ : ∃ K, outK kk ls tk wt = K := ⟨_, rfl⟩
        obtain ⟨R, hRR⟩ : ∃ R, outL kk ls tk wt = R := ⟨_, rfl⟩
        have hok : C = 0 → KO = (kk : Int) ∧ R = (play kk ds (j + 1)).2 := fun e => by
          have hc : code ls tk wt = 0 := by omega
          rw [hlv2, if_pos hc, ← hKO, ← hRR]
          unfold outK outL
          rw [if_pos hc, if_pos hc]
          exact ⟨rfl, rfl⟩
        have hno : C ≠ 0 → (play kk ds (j + 1)).2 = ls := fun e => by rw [hlv2, if_neg (by omega)]
        have hadd : ∀ W, Below wr.heap.size wr W → Calls Try.prog 20 #[.agg #[.int .i64 (kk : Int), .int .i64 0, .slice A N c], .int .u64 (tk : Int), .int .u64 (wt : Int)] W fun e w' => ∃ A' c', e = .returned (.tuple #[.agg #[.int .i64 KO, .int .i64 0, .slice A' R.length c'], .int .i64 C]) ∧ Levs w' w'.heap.size (.slice A' R.length c') R ∧ Below W.heap.size W w' := by
          intro W hW
          have := radd_any kk ls hmd tk wt (by omega) W A c (by rw [hN]; exact hL.grow hW)
          rw [hC, hKO, hRR, hN] at this
          exact this
        have HOK := Lib.hid hok
        have HNO := Lib.hid hno
        have HADD := Lib.hid hadd
        have HTK := Lib.hid htk2
        have HLV := Lib.hid hL
        have HBX := Lib.hid hbx
        have HBEL := Lib.hid hbel
        have HN := Lib.hid hN
        have H0 := Lib.hid x0
        have H1 := Lib.hid x1
        have H2 := Lib.hid x2
        have HLH := Lib.hid hlx
        have HLD := Lib.hid hbd
        have HD0 := Lib.hid d0
        have HD1 := Lib.hid d1
        have HTT := Lib.hid htkk
        have hjn : j + 1 ≤ nd := by omega
        have hj30 : j + 1 ≤ 30 := by omega
        have hjI : (j : Int) < (nd : Int) := by omega
        have g1 : decide (j < nd) = true := by simp; omega
        have g2 : decide ((j : Int) < 30) = true := by simp; omega
        have bt : (tk0 : Int) + (gp : Int) % 1000 ≤ 18446744073709551615 := by omega
        clear hok hno hadd htk2 hL hbx hbel hbw hN x0 x1 x2 d1 hcd hdeed hps hlv2 hC hKO hRR hx hgp hwt hin htkk hmd hls htk0 hdl
        go_upto_region 7 with (fail)
        rw [show (tk0 : Int) + (gp : Int) % 1000 = (tk : Int) by have := HTT.out; omega]
        clear g1 g2 bt d0
        refine region_all (fr := ?frA) (fun i us W => match i with
            | 0 => us 0 = .agg #[.int .i64 (kk : Int), .int .i64 0, .slice A N c]
            | 1 => us 1 = .int .u64 (tk : Int)
            | 2 => us 2 = .slice (some ⟨bd, od, none⟩) nd cd
            | 3 => us 3 = .int .i64 (j : Int)
            | 4 => us 4 = .pointer (some ⟨bd, od + j * 2, none⟩)
            | 5 => us 5 = .pointer (some ⟨bd, od + j * 2 + 1, none⟩)
            | 6 => us 6 = .int .u64 (wt : Int)
            | 7 => Tp KO C R (us 7) W
            | 8 => Tp KO C R (us 8) W
            | 9 => Hp KO R (us 9) W
            | 10 => us 10 = .int .i64 C
            | 11 => Nw3 29 wr.heap.size (us 11) W
            | 12 => Yb3 29 wr.heap.size KO R (us 11) W
            | 13 => us 13 = .int .i64 C
            | _ => True) (fun j W W' => Ea 29 wr.heap.size 12 j W W') (fun W => Below wr.heap.size wr W) rfl ?hBA ?hfrA ?hlocA ?hstA ?hG0A ?hGA ?hopA ?hendA
        case hBA => kernel_rfl
        case hfrA =>
          intro us
          simp only [List.length_cons, List.length_nil, Nat.zero_add, Nat.reduceAdd, putO, dstO]
          go_simp
          rfl
        case hlocA =>
          intro i us us' W h hf
          match i with
          | 0 =>
            have e0 := h 0 (.inl rfl)
            try dsimp only at hf ⊢
            rw [e0] at hf
            exact hf
          | 1 =>
            have e1 := h 1 (.inl rfl)
            try dsimp only at hf ⊢
            rw [e1] at hf
            exact hf
          | 2 =>
            have e2 := h 2 (.inl rfl)
            try dsimp only at hf ⊢
            rw [e2] at hf
            exact hf
          | 3 =>
            have e3 := h 3 (.inl rfl)
            try dsimp only at hf ⊢
            rw [e3] at hf
            exact hf
          | 4 =>
            have e4 := h 4 (.inl rfl)
            try dsimp only at hf ⊢
            rw [e4] at hf
            exact hf
          | 5 =>
            have e5 := h 5 (.inl rfl)
            try dsimp only at hf ⊢
            rw [e5] at hf
            exact hf
          | 6 =>
            have e6 := h 6 (.inl rfl)
            try dsimp only at hf ⊢
            rw [e6] at hf
            exact hf
          | 7 =>
            have e7 := h 7 (.inl rfl)
            try dsimp only at hf ⊢
            rw [e7] at hf
            exact hf
          | 8 =>
            have e8 := h 8 (.inl rfl)
            try dsimp only at hf ⊢
            rw [e8] at hf
            exact hf
          | 9 =>
            have e9 := h 9 (.inl rfl)
            try dsimp only at hf ⊢
            rw [e9] at hf
            exact hf
          | 10 =>
            have e10 := h 10 (.inl rfl)
            try dsimp only at hf ⊢
            rw [e10] at hf
            exact hf
          | 11 =>
            have e11 := h 11 (.inl rfl)
            try dsimp only at hf ⊢
            rw [e11] at hf
            exact hf
          | 12 =>
            have e11 := h 11 (.inr (by kernel_rfl))
            try dsimp only at hf ⊢
            rw [e11] at hf
            exact hf
          | 13 =>
            have e13 := h 13 (.inl rfl)
            try dsimp only at hf ⊢
            rw [e13] at hf
            exact hf
          | n + 14 => trivial
        case hstA =>
          intro i j us W W' hne hw hi hj hE hf
          match i with
          | 0 => exact hf
          | 1 => exact hf
          | 2 => exact hf
          | 3 => exact hf
          | 4 => exact hf
          | 5 => exact hf
          | 6 => exact hf
          | 7 =>
            exact Tp.ea (by decide) (by decide) hE hf
          | 8 =>
            exact Tp.ea (by decide) (by decide) hE hf
          | 9 =>
            exact Hp.ea (by decide) (by decide) hE hf
          | 10 => exact hf
          | 11 =>
            exact Nw3.ea hE hf
          | 12 =>
            exact Yb3.ea hE (Ne.symm hne) hf
          | 13 => exact hf
          | n + 14 => trivial
        case hG0A =>
          exact (Below.refl _ wr).drew
        case hGA =>
          intro j W W' hE hg
          exact Ea.below hE hg hg.size
        case hopA =>
          intro i hi us W hg hd hq
          match i, hi with
          | 0, _ =>
            clear hd hq
            have qa := (hg.cell (p := ⟨w.heap.size + 1, 0, none⟩) HLH.out).trans H0.out
            have qb := (hg.cell (p := ⟨w.heap.size + 1, 1, none⟩) HLH.out).trans H1.out
            have qc := (hg.cell (p := ⟨w.heap.size + 1, 2, none⟩) HLH.out).trans H2.out
            refine all_value rfl rfl (.agg #[.int .i64 (kk : Int), .int .i64 0, .slice A N c]) W (by go_simp) ?_ ?_
            · exact .inl (Grows.refl _)
            · rfl
          | 1, _ =>
            clear hd hq
            refine all_value rfl rfl (.int .u64 (tk : Int)) W (by go_simp) ?_ ?_
            · exact .inl (Grows.refl _)
            · rfl
          | 2, _ =>
            clear hd hq
            refine all_value rfl rfl (.slice (some ⟨bd, od, none⟩) nd cd) W (by go_simp) ?_ ?_
            · exact .inl (Grows.refl _)
            · rfl
          | 3, _ =>
            clear hd hq
            refine all_value rfl rfl (.int .i64 (j : Int)) W (by go_simp) ?_ ?_
            · exact .inl (Grows.refl _)
            · rfl
          | 4, _ =>
            have h2 : us 2 = .slice (some ⟨bd, od, none⟩) nd cd := hd 2 (by kernel_rfl)
            have h3 : us 3 = .int .i64 (j : Int) := hd 3 (by kernel_rfl)
            clear hd hq
            refine all_value rfl rfl (.pointer (some ⟨bd, od + j * 2, none⟩)) W (by go_simp) ?_ ?_
            · exact .inl (Grows.refl _)
            · rfl
          | 5, _ =>
            have h4 : us 4 = .pointer (some ⟨bd, od + j * 2, none⟩) := hd 4 (by kernel_rfl)
            clear hd hq
            refine all_value rfl rfl (.pointer (some ⟨bd, od + j * 2 + 1, none⟩)) W (by go_simp) ?_ ?_
            · exact .inl (Grows.refl _)
            · rfl
          | 6, _ =>
            have h5 : us 5 = .pointer (some ⟨bd, od + j * 2 + 1, none⟩) := hd 5 (by kernel_rfl)
            clear hd hq
            have qa := (hg.cell (p := ⟨bd, od + j * 2 + 1, none⟩) HLD.out).trans HD1.out
            refine all_value rfl rfl (.int .u64 (wt : Int)) W (by go_simp) ?_ ?_
            · exact .inl (Grows.refl _)
            · rfl
          | 7, _ =>
            have h0 : us 0 = .agg #[.int .i64 (kk : Int), .int .i64 0, .slice A N c] := hd 0 (by kernel_rfl)
            have h1 : us 1 = .int .u64 (tk : Int) := hd 1 (by kernel_rfl)
            have h6 : us 6 = .int .u64 (wt : Int) := hd 6 (by kernel_rfl)
            clear hd hq
            refine all_call rfl rfl 20 #[.agg #[.int .i64 (kk : Int), .int .i64 0, .slice A N c], .int .u64 (tk : Int), .int .u64 (wt : Int)] (by go_simp) ?_
            exact (HADD.out W hg).mono fun _ W' ⟨A', c', he, hL, hb⟩ => ⟨_, he, .inl hb, ⟨A', c', rfl, hL⟩⟩
          | 8, _ =>
            have h7 : Tp KO C R (us 7) W := hd 7 (by kernel_rfl)
            clear hd hq
            refine all_value rfl rfl (us 7) W (by go_simp) ?_ ?_
            · exact .inl (Grows.refl _)
            · exact h7
          | 9, _ =>
            have h8 : Tp KO C R (us 8) W := hd 8 (by kernel_rfl)
            clear hd hq
            obtain ⟨A', c', e8, hL⟩ := h8
            refine all_value rfl rfl (.agg #[.int .i64 KO, .int .i64 0, .slice A' R.length c']) W (by go_simp) ?_ ?_
            · exact .inl (Grows.refl _)
            · exact ⟨A', c', rfl, hL⟩
          | 10, _ =>
            have h8 : Tp KO C R (us 8) W := hd 8 (by kernel_rfl)
            clear hd hq
            obtain ⟨A', c', e8, hL⟩ := h8
            refine all_value rfl rfl (.int .i64 C) W (by go_simp) ?_ ?_
            · exact .inl (Grows.refl _)
            · rfl
          | 11, _ =>
            clear hd hq
            refine all_value rfl rfl (.pointer (some ⟨W.heap.size, 0, none⟩)) (W.alloc (.cells #[.int .i64 0, .int .i64 0, .slice none 0 0] 29)) (by go_simp) ?_ ?_
            · exact .inl (Grows.alloc _ _)
            · exact ⟨W.heap.size, _, _, _, rfl, hg.size, World.alloc_heap_new _ _⟩
          | 12, _ =>
            have h11 : Nw3 29 wr.heap.size (us 11) W := hd 11 (by kernel_rfl)
            have h9 : Hp KO R (us 9) W := hd 9 (by kernel_rfl)
            clear hd hq
            obtain ⟨A', c', e9, hL⟩ := h9
            obtain ⟨p, x0, x1, x2, e11, hp, hblk⟩ := h11
            obtain ⟨q0, q1, q2⟩ := box3 hblk
            have f0 : ∀ i, W.frozen? ⟨p, i, none⟩ = false := fun i => by simp [World.frozen?, hblk]
            have HBK := Lib.hid hblk
            have hlp := lt_of hblk
            clear hblk
            refine all_skip rfl rfl (((W.setCell ⟨p, 0, none⟩ (.int .i64 KO)).setCell ⟨p, 1, none⟩ (.int .i64 0)).setCell ⟨p, 2, none⟩ (.slice A' R.length c')) (by go_simp) ?_ ?_
            · exact .inr ⟨rfl, st3_set hp HBK.out _ _ _⟩
            · exact ⟨p, A', c', e11, hp, set3 HBK.out _ _ _, levs_set3 (by decide) (by decide) HBK.out _ _ _ hL⟩
          | 13, _ =>
            have h10 : us 10 = .int .i64 C := hd 10 (by kernel_rfl)
            clear hd hq
            refine all_value rfl rfl (.int .i64 C) W (by go_simp) ?_ ?_
            · exact .inl (Grows.refl _)
            · rfl
          | n + 14, h => exact absurd h (by simp)
        case hendA =>
          intro us W hg hf
          have h12 : Yb3 29 wr.heap.size KO R (us 11) W := hf 12 (by simp)
          have h13 : us 13 = .int .i64 C := hf 13 (by simp)
          clear hf
          obtain ⟨p, Ap, cp, e11, hp, hblk, hLp⟩ := h12
          rw [h13, e11]
          have hbA := (hg.block (w.heap.size + 1) HLH.out).trans HBX.out
          obtain ⟨y0, y1, y2⟩ := box3 hbA
          obtain ⟨z0, z1, z2⟩ := box3 hblk
          have fA : ∀ i, W.frozen? ⟨w.heap.size + 1, i, none⟩ = false := fun i => by simp [World.frozen?, hbA]
          have lA := lt_of hbA
          have lp := lt_of hblk
          have hpA : p ≠ w.heap.size + 1 := by have := HLH.out; omega
          have HBA := Lib.hid hbA
          have HLP := Lib.hid hLp
          have HGW := Lib.hid (HBEL.out.trans (hg.mono (by have := HLH.out; omega)))
          have HLW := Lib.hid (HLV.out.grow hg)
          clear hbA hblk hLp hg e11 h13
          by_cases hc : C = 0
          · have hR := HOK.out hc
            have HR1 := Lib.hid hR
            have d : (C == 0) = true := by simpa using hc
            clear hR hc
            go_wp2
            refine ⟨⟨j + 1, Ap, cp, by go_num, by rw [HTK.out], hj30, hjn, ?_, ?_, ?_⟩, by simp [intOf]; omega⟩
            · rw [HR1.out.1, HR1.out.2] at *
              exact set3 HBA.out _ _ _
            · rw [← HR1.out.2]
              exact levs_set3 (by decide) (by decide) HBA.out _ _ _ HLP.out
            · exact below3 HGW.out (Nat.le_refl _) _ _ _
          · have hR := HNO.out hc
            have HR1 := Lib.hid hR
            have d : (C == 0) = false := by simpa using hc
            clear hR hc
            go_wp2
            refine ⟨⟨j + 1, A, c, by go_num, by rw [HTK.out], hj30, hjn, ?_, ?_, HGW.out⟩, by simp [intOf]; omega⟩
            · rw [HR1.out, HN.out]
              exact HBA.out
            · rw [HR1.out, HN.out]
              exact HLW.out
      · have hjd : j = doneN ds := by unfold doneN; omega
        subst hjd
        have hbr := (hbel.block w.heap.size (by omega)).trans P0.out
        obtain ⟨y0, y1, y2⟩ := box3 hbr
        have f1 : ∀ i, wr.frozen? ⟨w.heap.size, i, none⟩ = false := fun i => by simp [World.frozen?, hbr]
        have hlr := lt_of hbr
        have hr3 := set3 hbr (.int .i64 (kk : Int)) (.int .i64 0) (.slice A N c)
        obtain ⟨t0, t1, t2⟩ := box3 hr3
        have hL3 := levs_set3 (by decide) (by decide) hbr (.int .i64 (kk : Int)) (.int .i64 0) (.slice A N c) hL
        have hb3 := below3 hbw (b := w.heap.size) (Nat.le_refl _) (.int .i64 (kk : Int)) (.int .i64 0) (.slice A N c)
        have HL3 := Lib.hid hL3
        have HB3 := Lib.hid hb3
        have T0 := Lib.hid t0
        have T1 := Lib.hid t1
        have T2 := Lib.hid t2
        have HNN := Lib.hid hN
        have HLS := Lib.hid hls
        obtain ⟨jj, hjj⟩ : ∃ jj, doneN ds = jj := ⟨_, rfl⟩
        rw [hjj] at hlt hj30 hjn HLS ⊢
        have HJJ := Lib.hid hjj
        clear hjj hbr hr3 t0 t1 t2 hL3 hb3 hL hbx hbel hbw hN hls htk0 htk hmd hdl
        by_cases h1 : jj < nd
        · have g1 : decide (jj < nd) = true := by simpa using h1
          have g2 : decide ((jj : Int) < 30) = false := by simp; omega
          clear hlt
          go_wp2
          refine bodyPost_ret (v := hv kk 0 (.slice A N c)) (by simp [results, Try.results17, go_sem, T0.out, T1.out, T2.out]) rfl ⟨A, c, ?_, ?_, HB3.out⟩
          · rw [HJJ.out, HLS.out, HNN.out]
          · rw [HJJ.out, HLS.out, HNN.out]
            exact HL3.out
        · have g1 : decide (jj < nd) = false := by simpa using h1
          clear hlt
          go_wp2
          refine bodyPost_ret (v := hv kk 0 (.slice A N c)) (by simp [results, Try.results17, go_sem, T0.out, T1.out, T2.out]) rfl ⟨A, c, ?_, ?_, HB3.out⟩
          · rw [HJJ.out, HLS.out, HNN.out]
          · rw [HJJ.out, HLS.out, HNN.out]
            exact HL3.out

end Go.Proofs.Ytoplbjanemjebaa
