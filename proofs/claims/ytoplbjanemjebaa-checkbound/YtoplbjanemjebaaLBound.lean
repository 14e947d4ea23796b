/-
  'skylight/skylightlaw09.CheckBound' returns true for every input, and the input reads afterwards as it read before. Conditions: none.
-/
import Derived.Test.YtoplbjanemjebaaRows
import Derived.WalkKit
import Derived.ProofKit
import Derived.OpenShut
import Derived.ShutString
import Derived.ChangeOld
import Derived.Below
import Derived.Test.YtoplbjanemjebaaOpen
import Derived.Test.YtoplbjanemjebaaCkAwk
import Derived.Test.YtoplbjanemjebaaXDrop
import Derived.Test.YtoplbjanemjebaaXOld
import Derived.Test.YtoplbjanemjebaaCkLen
namespace Go.Proofs.Ytoplbjanemjebaa.checkBound
open Go.Proofs Go.Proofs.Rn Go.Proofs.Op Go.Proofs.Rw Go.Proofs.Lm Go.Proofs.Lh Go.Proofs.Rf
open Go.ChangeShapes Go.WideShapes Go.ChangeAt Go.RowKit
open Go.ChangeMaps (open_string shut_string)
set_option linter.unusedVariables false

theorem own : ownKnob Try.prog.godebug = none := by kernel_rfl
theorem laidOut : laidOutB Try.prog = true := by kernel_rfl

/-- A slice of integers that came in: nil, or a row of cells of its capacity, each fitting its kind. -/
def IsRow (k : IntKind) (w : World) (a : Option Addr) (len cap : Nat) (zs : List Int) : Prop :=
  (a = none ∧ len = 0 ∧ cap = 0 ∧ zs = []) ∨
  ∃ x, a = some x ∧ len ≤ cap ∧ cap ≤ maxLen ∧ zs.length = cap ∧ (∀ i, i < zs.length → w.cell? (x.add i) = some (.int k (zs.getD i 0))) ∧ ∀ n ∈ zs, (Lit.int k n).wf = true

theorem fit2_of {c : List Value} (h : Op.Fits [.u64, .u64] c) : ∃ x0 x1 : Int, c = [.int .u64 x0, .int .u64 x1] ∧ (Lit.int .u64 x0).wf = true ∧ (Lit.int .u64 x1).wf = true := by
  cases c with
  | nil => exact h.elim
  | cons y0 c =>
  have g0 := h.1
  replace h := h.2
  cases c with
  | nil => exact h.elim
  | cons y1 c =>
  have g1 := h.1
  replace h := h.2
  cases c with
  | cons y c => exact h.elim
  | nil =>
  obtain ⟨x0, e0, e0w⟩ := g0
  obtain ⟨x1, e1, e1w⟩ := g1
  exact ⟨x0, x1, by rw [e0, e1], e0w, e1w⟩

open Go.RowKit Go.Shelf Go.Proofs.Rw Go.Proofs.Lh Go.Proofs.Rf

set_option maxRecDepth 100000 in
set_option maxHeartbeats 4000000 in
theorem walk (a0 : Int) (a1 : Option Addr) (len1 cap1 : Nat) (z1 : Nat → Nat → Int) (a2_0 a2_1 : Int) (w : World) (w0 : (Lit.int .i64 a0).wf = true) (w1 : Op.FlatRow [.u64, .u64] w a1 len1 cap1 z1) (w2_0 : (Lit.int .u64 a2_0).wf = true) (w2_1 : (Lit.int .u64 a2_1).wf = true) :
    Calls Try.prog 6 #[.int .i64 a0, .slice a1 len1 cap1, .agg #[.int .u64 a2_0, .int .u64 a2_1]] w fun e w' => e = .returned (.bool true) ∧ Below w.heap.size w w' := by
  obtain ⟨ds, hdl1, hdL1, hdB1⟩ := sp_of_row w1
  have hD1 : Deeds w a1 len1 cap1 ds := ⟨hdl1, hdL1, hdB1⟩
  obtain ⟨b00, b01⟩ := bounds_i64 w0
  obtain ⟨c00, c01⟩ := bounds_u64 w2_0
  obtain ⟨n0, rfl⟩ : ∃ n : Nat, a2_0 = (n : Int) := ⟨a2_0.toNat, by omega⟩
  have hb0 : n0 < 18446744073709551616 := by omega
  obtain ⟨c10, c11⟩ := bounds_u64 w2_1
  obtain ⟨n1, rfl⟩ : ∃ n : Nat, a2_1 = (n : Int) := ⟨a2_1.toNat, by omega⟩
  have hb1 : n1 < 18446744073709551616 := by omega
  clear c00 c01 w2_0 c10 c11 w2_1 w0 w1 hdl1 hdL1 hdB1
  obtain ⟨kk, hkk⟩ : ∃ kk, kOf a0 = kk := ⟨_, rfl⟩
  have hke := kOf_eq a0
  have hkl := kOf_le a0
  rw [hkk] at hke hkl
  have HKE := Lib.hid hke
  have HD1 := Lib.hid hD1
  clear hkk hke hD1
  have hbx : (w.alloc (.cells #[.int .u64 (n0 : Int), .int .u64 (n1 : Int)] 39)).heap[w.heap.size]? = some (.cells #[.int .u64 (n0 : Int), .int .u64 (n1 : Int)] 39) := heap_alloc_new w _
  have HBXX := Lib.hid hbx
  clear hbx
  generalize len1 = nd at *
  generalize cap1 = cd at *
  go_enter Try.func6, Try.ntmps6
  go_upto_region 2 with (go_at_call 8; refine (awake_any _).mono ?_; rintro e wa ⟨rfl, ha⟩; have t := (ha.block w.heap.size (by simp)).trans HBXX.out; have PXA := Lib.hid t; have HWA := Lib.hid (((Below.refl _ w).alloc (Nat.le_refl _) _).trans (ha.mono (by simp))); clear ha t)
  have HD := Lib.hid (HD1.out.grow HWA.out)
  have lXA := lt_of PXA.out
  have LXA := Lib.hid lXA
  obtain ⟨bX, hbX⟩ : ∃ b, w.heap.size = b := ⟨_, rfl⟩
  have HWX := Lib.hid HWA.out
  rw [hbX] at PXA LXA ⊢
  clear hbX lXA HBXX HD1
  obtain ⟨W0, hW0⟩ : ∃ W, wa.alloc (.cells #[.int .i64 (kk : Int), .int .i64 0, .slice none 0 0] 29) = W := ⟨_, rfl⟩
  have hB0 : Below wa.heap.size wa W0 := by rw [← hW0]; exact (Below.refl _ wa).alloc (Nat.le_refl _) _
  have p1 : W0.heap[wa.heap.size]? = some (.cells #[.int .i64 (kk : Int), .int .i64 0, .slice none 0 0] 29) := by rw [← hW0]; exact heap_alloc_new wa _
  have HW0 := Lib.hid hW0
  have HB0 := Lib.hid hB0
  have P1 := Lib.hid p1
  clear hW0 hB0 p1
  go_cut [8] from 16 to 20 (fun s8 wx => s8 = .pointer (some ⟨wa.heap.size, 0, none⟩) ∧ W0 = wx)
  case first =>
    by_cases h : 0 ≤ a0
    · go_wp2
      go_meet
      case rel =>
        refine ⟨rfl, ?_⟩
        first
          | rw [← HW0.out, show (2 + a0 % 30 : Int) = (kk : Int) by have := HKE.out; rw [this, Int.max_eq_left h]]
          | rw [← HW0.out, show (2 + max a0 0 % 30 : Int) = (kk : Int) from HKE.out.symm]
    · go_wp2
      go_meet
      case rel =>
        refine ⟨rfl, ?_⟩
        have e : (kk : Int) = 2 := by have := HKE.out; rw [this]; omega
        first
          | rw [← HW0.out, show (2 + max a0 0 % 30 : Int) = (kk : Int) from HKE.out.symm]
          | rw [← HW0.out, e]
  case rest =>
    obtain ⟨rfl, rfl⟩ := hcut
    clear HW0 HKE
    go_wp2
    go_loopw [9, 10, 11] (fun s10 s11 s12 wr => ∃ (j : Nat) (A : Option Addr) (c : Nat), s12 = .int .i64 (j : Int) ∧ s10 = .int .u64 ((play kk ds j).1 : Int) ∧ s11 = .int .u64 (exactN kk (newB n0 n1) ds j : Nat) ∧ j ≤ 30 ∧ j ≤ nd ∧ wr.heap[wa.heap.size]? = some (.cells #[.int .i64 (kk : Int), .int .i64 0, .slice A (play kk ds j).2.length c] 29) ∧ Levs wr wr.heap.size (.slice A (play kk ds j).2.length c) (play kk ds j).2 ∧ Below wa.heap.size W0 wr) (fun _ _ s12 _ => 30 - (intOf s12).toNat)
    case atStart =>
      refine ⟨0, none, 0, rfl, ?_, ?_, by omega, Nat.zero_le _, ?_, ?_, Below.refl _ _⟩
      · rw [play_zero]
        rfl
      · rw [exact_zero]
        rfl
      · rw [play_zero]
        exact P1.out
      · rw [play_zero]
        exact Levs.nil
    case round =>
      obtain ⟨j, A, c, rfl, rfl, rfl, hj30, hjn, hbx, hL, hbel⟩ := hrel
      have hbw : Below wa.heap.size wa wr := HB0.out.trans hbel
      have hdl := HD.out.1
      have hmd := play_made (k := kk) hkl.1 (by omega) ds j (by omega)
      have htk := play_tick kk ds j (by omega)
      have hex := fun (h : j < ds.length) => exact_succ kk (newB n0 n1) ds j h
      have hel := fun (h : j + 1 ≤ ds.length) => exact_le kk (newB n0 n1) ds (j + 1) h
      have hm2 := fun (h : j + 1 ≤ ds.length) => (play_made (k := kk) hkl.1 (by omega) ds (j + 1) h).small
      obtain ⟨tk0, htk0⟩ : ∃ t, (play kk ds j).1 = t := ⟨_, rfl⟩
      obtain ⟨ls, hls⟩ : ∃ l, (play kk ds j).2 = l := ⟨_, rfl⟩
      obtain ⟨N, hN⟩ : ∃ n, ls.length = n := ⟨_, rfl⟩
      obtain ⟨ex, hxe⟩ : ∃ n, exactN kk (newB n0 n1) ds j = n := ⟨_, rfl⟩
      rw [htk0] at htk ⊢
      rw [hxe]
      rw [hls, hN] at hbx hL
      rw [hls] at hmd
      simp only [htk0, hls, hxe] at hex
      obtain ⟨x0, x1, x2⟩ := box3 hbx
      have hlx := lt_of hbx
      by_cases hlt : j < nd ∧ j < 30
      · have hdeed := HD.out.2.1.below hbw
        obtain ⟨bd, od, rfl, hbdw, -, hcd⟩ := sp_at hdeed (by omega)
        have hbd : bd < wr.heap.size := Nat.lt_of_lt_of_le hbdw hbw.size
        obtain ⟨d0, d1⟩ := hcd j (by omega)
        have hin := HD.out.2.2 (ds[j]'(by omega)) (List.getElem_mem _)
        have hps := play_succ kk ds j (by omega)
        have hex1 := hex (by omega)
        have hel1 := Nat.le_trans (hel (by omega)) (hm2 (by omega))
        obtain ⟨x, hx⟩ : ∃ x, ds[j]'(by omega) = x := ⟨_, rfl⟩
        rw [hx] at d0 d1 hin hps hex1
        obtain ⟨gp, hgp⟩ : ∃ g, x.1 = g := ⟨_, rfl⟩
        obtain ⟨wt, hwt⟩ : ∃ g, x.2 = g := ⟨_, rfl⟩
        rw [hgp] at d0 hin hex1
        rw [hwt] at d1 hin hex1
        obtain ⟨tk, htkk⟩ : ∃ t, tk0 + gp % 1000 = t := ⟨_, rfl⟩
        rw [htkk] at hex1
        have htk2 : (play kk ds (j + 1)).1 = tk := by rw [hps, step_tick, htk0, hgp, htkk]
        have hlv2 : (play kk ds (j + 1)).2 = if code ls tk wt = 0 then addW kk ls tk wt else ls := by rw [hps, step_levs, htk0, hls, hgp, hwt, htkk]
        obtain ⟨C, hC⟩ : ∃ C : Int, ((code ls tk wt : Nat) : Int) = C := ⟨_, rfl⟩
        obtain ⟨KO, hKO⟩ : ∃ K, outK kk ls tk wt = K := ⟨_, rfl⟩
        obtain ⟨R, hRR⟩ : ∃ R, outL kk ls tk wt = R := ⟨_, rfl⟩
        obtain ⟨z0, hz0⟩ : ∃ z, oldB tk n0 n1 = z := ⟨_, rfl⟩
        have hnb : newB n0 n1 tk = !z0 := by unfold newB; rw [hz0]
        rw [hnb] at hex1
        have hok : C = 0 → (KO = (kk : Int) ∧ R = (play kk ds (j + 1)).2) ∧ exactN kk (newB n0 n1) ds (j + 1) = if z0 = true then ex else ex + wt := fun e => by
          have hc : code ls tk wt = 0 := by omega
          refine ⟨?_, ?_⟩
          · rw [hlv2, if_pos hc, ← hKO, ← hRR]
            unfold outK outL
            rw [if_pos hc, if_pos hc]
            exact ⟨rfl, rfl⟩
          · rw [hex1]
            cases z0 <;> simp [hc]
        have hno : C ≠ 0 → (play kk ds (j + 1)).2 = ls ∧ exactN kk (newB n0 n1) ds (j + 1) = ex := fun e => by
          have hc : code ls tk wt ≠ 0 := by omega
          exact ⟨by rw [hlv2, if_neg hc], by rw [hex1, if_neg (fun h => hc h.1)]⟩
        have hadd : ∀ W, Below wr.heap.size wr W → Calls Try.prog 20 #[.agg #[.int .i64 (kk : Int), .int .i64 0, .slice A N c], .int .u64 (tk : Int), .int .u64 (wt : Int)] W fun e w' => ∃ A' c', e = .returned (.tuple #[.agg #[.int .i64 KO, .int .i64 0, .slice A' R.length c'], .int .i64 C]) ∧ Levs w' w'.heap.size (.slice A' R.length c') R ∧ Below W.heap.size W w' := by
          intro W hW
          have := radd_any kk ls hmd tk wt (by omega) W A c (by rw [hN]; exact hL.grow hW)
          rw [hC, hKO, hRR, hN] at this
          exact this
        have hwi := fun W => rold_any tk n0 n1 W hb0
        simp only [hz0] at hwi
        have HOK := Lib.hid hok
        have HNO := Lib.hid hno
        have HADD := Lib.hid hadd
        have HWI := Lib.hid hwi
        have HTK := Lib.hid htk2
        have HLV := Lib.hid hL
        have HBX := Lib.hid hbx
        have HBEL := Lib.hid hbel
        have HN := Lib.hid hN
        have H0 := Lib.hid x0
        have H1 := Lib.hid x1
        have H2 := Lib.hid x2
        have HLH := Lib.hid hlx
        have HLD := Lib.hid hbd
        have HBDW := Lib.hid hbdw
        have HD0 := Lib.hid d0
        have HD1 := Lib.hid d1
        have HTT := Lib.hid htkk
        have HEL := Lib.hid hel1
        have HWR := Lib.hid hbw
        have hjn : j + 1 ≤ nd := by omega
        have hj30 : j + 1 ≤ 30 := by omega
        have hjI : (j : Int) < (nd : Int) := by omega
        have g1 : decide (j < nd) = true := by simp; omega
        have g2 : decide ((j : Int) < 30) = true := by simp; omega
        have bt : (tk0 : Int) + (gp : Int) % 1000 ≤ 18446744073709551615 := by omega
        clear hok hno hadd hwi htk2 hL hbx hbel hbw hN x0 x1 x2 d1 hcd hdeed hps hlv2 hC hKO hRR hx hgp hwt hin htkk hmd hls htk0 hdl hex hel hm2 hex1 hel1 hz0 hnb hxe
        go_upto_region 9 with (fail)
        rw [show (tk0 : Int) + (gp : Int) % 1000 = (tk : Int) by have := HTT.out; omega]
        clear g1 g2 bt d0
        refine region_all (fr := ?frA) (fun i us W => match i with
            | 0 => us 0 = .agg #[.int .i64 (kk : Int), .int .i64 0, .slice A N c]
            | 1 => us 1 = .int .u64 (tk : Int)
            | 2 => us 2 = .slice (some ⟨bd, od, none⟩) nd cd
            | 3 => us 3 = .int .i64 (j : Int)
            | 4 => us 4 = .pointer (some ⟨bd, od + j * 2, none⟩)
            | 5 => us 5 = .pointer (some ⟨bd, od + j * 2 + 1, none⟩)
            | 6 => us 6 = .int .u64 (wt : Int)
            | 7 => Tp KO C R (us 7) W
            | 8 => Tp KO C R (us 8) W
            | 9 => Hp KO R (us 9) W
            | 10 => us 10 = .int .i64 C
            | 11 => Nw3 29 wr.heap.size (us 11) W
            | 12 => Yb3 29 wr.heap.size KO R (us 11) W
            | 13 => us 13 = .int .i64 C
            | _ => True) (fun j W W' => Ea 29 wr.heap.size 12 j W W') (fun W => Below wr.heap.size wr W) rfl ?hBA ?hfrA ?hlocA ?hstA ?hG0A ?hGA ?hopA ?hendA
        case hBA => kernel_rfl
        case hfrA =>
          intro us
          simp only [List.length_cons, List.length_nil, Nat.zero_add, Nat.reduceAdd, putO, dstO]
          go_simp
          rfl
        case hlocA =>
          intro i us us' W h hf
          match i with
          | 0 =>
            have e0 := h 0 (.inl rfl)
            try dsimp only at hf ⊢
            rw [e0] at hf
            exact hf
          | 1 =>
            have e1 := h 1 (.inl rfl)
            try dsimp only at hf ⊢
            rw [e1] at hf
            exact hf
          | 2 =>
            have e2 := h 2 (.inl rfl)
            try dsimp only at hf ⊢
            rw [e2] at hf
            exact hf
          | 3 =>
            have e3 := h 3 (.inl rfl)
            try dsimp only at hf ⊢
            rw [e3] at hf
            exact hf
          | 4 =>
            have e4 := h 4 (.inl rfl)
            try dsimp only at hf ⊢
            rw [e4] at hf
            exact hf
          | 5 =>
            have e5 := h 5 (.inl rfl)
            try dsimp only at hf ⊢
            rw [e5] at hf
            exact hf
          | 6 =>
            have e6 := h 6 (.inl rfl)
            try dsimp only at hf ⊢
            rw [e6] at hf
            exact hf
          | 7 =>
            have e7 := h 7 (.inl rfl)
            try dsimp only at hf ⊢
            rw [e7] at hf
            exact hf
          | 8 =>
            have e8 := h 8 (.inl rfl)
            try dsimp only at hf ⊢
            rw [e8] at hf
            exact hf
          | 9 =>
            have e9 := h 9 (.inl rfl)
            try dsimp only at hf ⊢
            rw [e9] at hf
            exact hf
          | 10 =>
            have e10 := h 10 (.inl rfl)
            try dsimp only at hf ⊢
            rw [e10] at hf
            exact hf
          | 11 =>
            have e11 := h 11 (.inl rfl)
            try dsimp only at hf ⊢
            rw [e11] at hf
            exact hf
          | 12 =>
            have e11 := h 11 (.inr (by kernel_rfl))
            try dsimp only at hf ⊢
            rw [e11] at hf
            exact hf
          | 13 =>
            have e13 := h 13 (.inl rfl)
            try dsimp only at hf ⊢
            rw [e13] at hf
            exact hf
          | n + 14 => trivial
        case hstA =>
          intro i j us W W' hne hw hi hj hE hf
          match i with
          | 0 => exact hf
          | 1 => exact hf
          | 2 => exact hf
          | 3 => exact hf
          | 4 => exact hf
          | 5 => exact hf
          | 6 => exact hf
          | 7 =>
            exact Tp.ea (by decide) (by decide) hE hf
          | 8 =>
            exact Tp.ea (by decide) (by decide) hE hf
          | 9 =>
            exact Hp.ea (by decide) (by decide) hE hf
          | 10 => exact hf
          | 11 =>
            exact Nw3.ea hE hf
          | 12 =>
            exact Yb3.ea hE (Ne.symm hne) hf
          | 13 => exact hf
          | n + 14 => trivial
        case hG0A =>
          exact (Below.refl _ wr).drew
        case hGA =>
          intro j W W' hE hg
          exact Ea.below hE hg hg.size
        case hopA =>
          intro i hi us W hg hd hq
          match i, hi with
          | 0, _ =>
            clear hd hq
            have qa := (hg.cell (p := ⟨wa.heap.size, 0, none⟩) HLH.out).trans H0.out
            have qb := (hg.cell (p := ⟨wa.heap.size, 1, none⟩) HLH.out).trans H1.out
            have qc := (hg.cell (p := ⟨wa.heap.size, 2, none⟩) HLH.out).trans H2.out
            refine all_value rfl rfl (.agg #[.int .i64 (kk : Int), .int .i64 0, .slice A N c]) W (by go_simp) ?_ ?_
            · exact .inl (Grows.refl _)
            · rfl
          | 1, _ =>
            clear hd hq
            refine all_value rfl rfl (.int .u64 (tk : Int)) W (by go_simp) ?_ ?_
            · exact .inl (Grows.refl _)
            · rfl
          | 2, _ =>
            clear hd hq
            refine all_value rfl rfl (.slice (some ⟨bd, od, none⟩) nd cd) W (by go_simp) ?_ ?_
            · exact .inl (Grows.refl _)
            · rfl
          | 3, _ =>
            clear hd hq
            refine all_value rfl rfl (.int .i64 (j : Int)) W (by go_simp) ?_ ?_
            · exact .inl (Grows.refl _)
            · rfl
          | 4, _ =>
            have h2 : us 2 = .slice (some ⟨bd, od, none⟩) nd cd := hd 2 (by kernel_rfl)
            have h3 : us 3 = .int .i64 (j : Int) := hd 3 (by kernel_rfl)
            clear hd hq
            refine all_value rfl rfl (.pointer (some ⟨bd, od + j * 2, none⟩)) W (by go_simp) ?_ ?_
            · exact .inl (Grows.refl _)
            · rfl
          | 5, _ =>
            have h4 : us 4 = .pointer (some ⟨bd, od + j * 2, none⟩) := hd 4 (by kernel_rfl)
            clear hd hq
            refine all_value rfl rfl (.pointer (some ⟨bd, od + j * 2 + 1, none⟩)) W (by go_simp) ?_ ?_
            · exact .inl (Grows.refl _)
            · rfl
          | 6, _ =>
            have h5 : us 5 = .pointer (some ⟨bd, od + j * 2 + 1, none⟩) := hd 5 (by kernel_rfl)
            clear hd hq
            have qa := (hg.cell (p := ⟨bd, od + j * 2 + 1, none⟩) HLD.out).trans HD1.out
            refine all_value rfl rfl (.int .u64 (wt : Int)) W (by go_simp) ?_ ?_
            · exact .inl (Grows.refl _)
            · rfl
          | 7, _ =>
            have h0 : us 0 = .agg #[.int .i64 (kk : Int), .int .i64 0, .slice A N c] := hd 0 (by kernel_rfl)
            have h1 : us 1 = .int .u64 (tk : Int) := hd 1 (by kernel_rfl)
            have h6 : us 6 = .int .u64 (wt : Int) := hd 6 (by kernel_rfl)
            clear hd hq
            refine all_call rfl rfl 20 #[.agg #[.int .i64 (kk : Int), .int .i64 0, .slice A N c], .int .u64 (tk : Int), .int .u64 (wt : Int)] (by go_simp) ?_
            exact (HADD.out W hg).mono fun _ W' ⟨A', c', he, hL, hb⟩ => ⟨_, he, .inl hb, ⟨A', c', rfl, hL⟩⟩
          | 8, _ =>
            have h7 : Tp KO C R (us 7) W := hd 7 (by kernel_rfl)
            clear hd hq
            refine all_value rfl rfl (us 7) W (by go_simp) ?_ ?_
            · exact .inl (Grows.refl _)
            · exact h7
          | 9, _ =>
            have h8 : Tp KO C R (us 8) W := hd 8 (by kernel_rfl)
            clear hd hq
            obtain ⟨A', c', e8, hL⟩ := h8
            refine all_value rfl rfl (.agg #[.int .i64 KO, .int .i64 0, .slice A' R.length c']) W (by go_simp) ?_ ?_
            · exact .inl (Grows.refl _)
            · exact ⟨A', c', rfl, hL⟩
          | 10, _ =>
            have h8 : Tp KO C R (us 8) W := hd 8 (by kernel_rfl)
            clear hd hq
            obtain ⟨A', c', e8, hL⟩ := h8
            refine all_value rfl rfl (.int .i64 C) W (by go_simp) ?_ ?_
            · exact .inl (Grows.refl _)
            · rfl
          | 11, _ =>
            clear hd hq
            refine all_value rfl rfl (.pointer (some ⟨W.heap.size, 0, none⟩)) (W.alloc (.cells #[.int .i64 0, .int .i64 0, .slice none 0 0] 29)) (by go_simp) ?_ ?_
            · exact .inl (Grows.alloc _ _)
            · exact ⟨W.heap.size, _, _, _, rfl, hg.size, World.alloc_heap_new _ _⟩
          | 12, _ =>
            have h11 : Nw3 29 wr.heap.size (us 11) W := hd 11 (by kernel_rfl)
            have h9 : Hp KO R (us 9) W := hd 9 (by kernel_rfl)
            clear hd hq
            obtain ⟨A', c', e9, hL⟩ := h9
            obtain ⟨p, x0, x1, x2, e11, hp, hblk⟩ := h11
            obtain ⟨q0, q1, q2⟩ := box3 hblk
            have f0 : ∀ i, W.frozen? ⟨p, i, none⟩ = false := fun i => by simp [World.frozen?, hblk]
            have HBK := Lib.hid hblk
            have hlp := lt_of hblk
            clear hblk
            refine all_skip rfl rfl (((W.setCell ⟨p, 0, none⟩ (.int .i64 KO)).setCell ⟨p, 1, none⟩ (.int .i64 0)).setCell ⟨p, 2, none⟩ (.slice A' R.length c')) (by go_simp) ?_ ?_
            · exact .inr ⟨rfl, st3_set hp HBK.out _ _ _⟩
            · exact ⟨p, A', c', e11, hp, set3 HBK.out _ _ _, levs_set3 (by decide) (by decide) HBK.out _ _ _ hL⟩
          | 13, _ =>
            have h10 : us 10 = .int .i64 C := hd 10 (by kernel_rfl)
            clear hd hq
            refine all_value rfl rfl (.int .i64 C) W (by go_simp) ?_ ?_
            · exact .inl (Grows.refl _)
            · rfl
          | n + 14, h => exact absurd h (by simp)
        case hendA =>
          intro us W hg hf
          have h12 : Yb3 29 wr.heap.size KO R (us 11) W := hf 12 (by simp)
          have h13 : us 13 = .int .i64 C := hf 13 (by simp)
          clear hf
          obtain ⟨p, Ap, cp, e11, hp, hblk, hLp⟩ := h12
          rw [h13, e11]
          have hbA := (hg.block wa.heap.size HLH.out).trans HBX.out
          obtain ⟨y0, y1, y2⟩ := box3 hbA
          obtain ⟨z0', z1', z2'⟩ := box3 hblk
          have fA : ∀ i, W.frozen? ⟨wa.heap.size, i, none⟩ = false := fun i => by simp [World.frozen?, hbA]
          have lA := lt_of hbA
          have lp := lt_of hblk
          have hpA : p ≠ wa.heap.size := by have := HLH.out; omega
          have d1 := (hg.cell (p := ⟨bd, od + j * 2 + 1, none⟩) HLD.out).trans HD1.out
          have lD : bd < W.heap.size := Nat.lt_of_lt_of_le HLD.out hg.size
          have tX := (hg.block bX (Nat.lt_of_lt_of_le (show bX < wa.heap.size from LXA.out) HWR.out.size)).trans ((HWR.out.block bX LXA.out).trans PXA.out)
          have v0 : W.cell? ⟨bX, 0, none⟩ = some (.int .u64 (n0 : Int)) := by simp [World.cell?, tX]
          have v1 : W.cell? ⟨bX, 1, none⟩ = some (.int .u64 (n1 : Int)) := by simp [World.cell?, tX]
          have lX : bX < W.heap.size := lt_of tX
          have nX : bX ≠ wa.heap.size := Nat.ne_of_lt LXA.out
          clear tX
          have nD : bd ≠ wa.heap.size := Nat.ne_of_lt HBDW.out
          have HBA := Lib.hid hbA
          have HLP := Lib.hid hLp
          have HGW := Lib.hid (HBEL.out.trans (hg.mono (by have := HLH.out; omega)))
          have HLW := Lib.hid (HLV.out.grow hg)
          clear hbA hblk hLp hg e11 h13
          by_cases hc : C = 0
          · have hR := HOK.out hc
            have d : (C == 0) = true := by simpa using hc
            have hel := HEL.out
            cases z0 with
            | false =>
              rw [if_neg (by simp)] at hR
              have bd' : (ex : Int) + (wt : Int) ≤ 18446744073709551615 := by have := hR.2; omega
              have HR1 := Lib.hid hR
              clear hR hc hel
              go_wp2_with (go_at_call 21; (with_reducible refine (HWI.out _).mono ?_); rintro e w9 ⟨rfl, rfl⟩)
              refine ⟨⟨j + 1, Ap, cp, by go_num, by rw [HTK.out], by rw [HR1.out.2]; go_num, hj30, hjn, ?_, ?_, ?_⟩, by simp [intOf]; omega⟩
              · rw [HR1.out.1.1, HR1.out.1.2] at *
                exact set3 HBA.out _ _ _
              · rw [← HR1.out.1.2]
                exact levs_set3 (by decide) (by decide) HBA.out _ _ _ HLP.out
              · exact below3 HGW.out (Nat.le_refl _) _ _ _
            | true =>
              rw [if_pos rfl] at hR
              have HR1 := Lib.hid hR
              clear hR hc hel
              go_wp2_with (go_at_call 21; (with_reducible refine (HWI.out _).mono ?_); rintro e w9 ⟨rfl, rfl⟩)
              refine ⟨⟨j + 1, Ap, cp, by go_num, by rw [HTK.out], by rw [HR1.out.2], hj30, hjn, ?_, ?_, ?_⟩, by simp [intOf]; omega⟩
              · rw [HR1.out.1.1, HR1.out.1.2] at *
                exact set3 HBA.out _ _ _
              · rw [← HR1.out.1.2]
                exact levs_set3 (by decide) (by decide) HBA.out _ _ _ HLP.out
              · exact below3 HGW.out (Nat.le_refl _) _ _ _
          · have hR := HNO.out hc
            have HR1 := Lib.hid hR
            have d : (C == 0) = false := by simpa using hc
            clear hR hc
            go_wp2
            refine ⟨⟨j + 1, A, c, by go_num, by rw [HTK.out], by rw [HR1.out.2], hj30, hjn, ?_, ?_, HGW.out⟩, by simp [intOf]; omega⟩
            · rw [HR1.out.1, HN.out]
              exact HBA.out
            · rw [HR1.out.1, HN.out]
              exact HLW.out
      · have hjd : j ≤ ds.length := by omega
        have hsm := play_small (k := kk) hkl.1 (by omega) n0 n1 ds j hjd
        have hel0 := Nat.le_trans (exact_le kk (newB n0 n1) ds j hjd) (play_made (k := kk) hkl.1 (by omega) ds j hjd).small
        rw [hls, hxe] at hsm
        rw [hxe] at hel0
        have hmd2 := hmd.drop n0 n1
        obtain ⟨D, hDD⟩ : ∃ x, dropL n0 n1 ls = x := ⟨_, rfl⟩
        rw [hDD] at hsm hmd2
        have hcl := cnt_few (k := kk) (by omega) hmd2.few
        have hdl3 := hmd2.len
        obtain ⟨cn, hcn⟩ : ∃ x, cnt D = x := ⟨_, rfl⟩
        obtain ⟨bo, hbo⟩ : ∃ x, boundN kk 0 ex = x := ⟨_, rfl⟩
        rw [hcn, hbo] at hsm
        have hcl2 : cnt D ≤ 1000000 := by
          have := Nat.mul_le_mul (show kk + 1 ≤ 1025 by omega) hdl3
          omega
        have hd1 : ∀ W, Below wr.heap.size wr W → Calls Try.prog 18 #[.agg #[.int .i64 (kk : Int), .int .i64 0, .slice A N c], .int .u64 (n0 : Int), .int .u64 (n1 : Int)] W fun e w' => ∃ A' c', e = .returned (.agg #[.int .i64 (kk : Int), .int .i64 0, .slice A' D.length c']) ∧ Levs w' w'.heap.size (.slice A' D.length c') D ∧ Below W.heap.size W w' := by
          intro W hW
          have := drop_any kk 0 ls hmd n0 n1 hb0 W A c (by rw [hN]; exact hL.grow hW)
          rw [hDD, hN] at this
          exact this
        have hbk : ∀ (W : World) (A' : Option Addr) (c' : Nat), Levs W W.heap.size (.slice A' D.length c') D → Calls Try.prog 13 #[.agg #[.int .i64 (kk : Int), .int .i64 0, .slice A' D.length c']] W fun e w' => e = .returned (.int .i64 (cn : Int)) ∧ Below W.heap.size W w' := by
          intro W A' c' hL'
          have := buckets_any (kk : Int) 0 D (by omega) hcl2 W A' c' hL'.reads
          rw [hcn] at this
          exact this
        have hbb := fun W => bound_any (kk : Int) 0 ex (by omega) W
        simp only [hbo] at hbb
        have HD1 := Lib.hid hd1
        have HBK := Lib.hid hbk
        have HBB := Lib.hid hbb
        have dle : decide (cn ≤ bo) = true := by simpa using hsm.1
        have HZ := Lib.hid hsm.2
        have PH := Lib.hid hbx
        have LH := Lib.hid hlx
        have tX := (hbw.block bX LXA.out).trans PXA.out
        have PX := Lib.hid tX
        have LX := Lib.hid (lt_of tX)
        have Y0 := Lib.hid x0
        have Y1 := Lib.hid x1
        have Y2 := Lib.hid x2
        have v0 : wr.cell? ⟨bX, 0, none⟩ = some (.int .u64 (n0 : Int)) := by simp [World.cell?, tX]
        have v1 : wr.cell? ⟨bX, 1, none⟩ = some (.int .u64 (n1 : Int)) := by simp [World.cell?, tX]
        have X0 := Lib.hid v0
        have X1 := Lib.hid v1
        have HBW := Lib.hid (thn HWX.out hbw)
        obtain ⟨bH, hbH⟩ : ∃ b, wa.heap.size = b := ⟨_, rfl⟩
        rw [hbH] at PH LH Y0 Y1 Y2 ⊢
        clear x0 x1 x2 v0 v1 tX hd1 hbk hbb hsm hcl hcl2 hdl3 hmd2 hcn hbo hDD hel0 hjd hxe hbw hL hbx hbel hN hls htk0 htk hmd hdl hex hel hm2 hlx hbH
        by_cases h1 : j < nd
        · have g1 : decide (j < nd) = true := by simpa using h1
          have g2 : decide ((j : Int) < 30) = false := by simp; omega
          clear hlt
          go_upto_region 14 with (fail)
          refine region_all (fr := ?frB) (fun i us W => match i with
              | 0 => us 0 = .agg #[.int .i64 (kk : Int), .int .i64 0, .slice A N c]
              | 1 => us 1 = .agg #[.int .i64 (kk : Int), .int .i64 0, .slice A N c]
              | 2 => us 2 = .pointer (some ⟨bX, 0, none⟩)
              | 3 => us 3 = .int .u64 (n0 : Int)
              | 4 => us 4 = .pointer (some ⟨bX, 1, none⟩)
              | 5 => us 5 = .int .u64 (n1 : Int)
              | 6 => Hp (kk : Int) D (us 6) W
              | 7 => Nw3 32 wr.heap.size (us 7) W
              | 8 => Yb3 32 wr.heap.size (kk : Int) D (us 7) W
              | _ => True) (fun j W W' => Ea 32 wr.heap.size 8 j W W') (fun W => Below wr.heap.size wr W) rfl ?hBB ?hfrB ?hlocB ?hstB ?hG0B ?hGB ?hopB ?hendB
          case hBB => kernel_rfl
          case hfrB =>
            intro us
            simp only [List.length_cons, List.length_nil, Nat.zero_add, Nat.reduceAdd, putO, dstO]
            go_simp
            rfl
          case hlocB =>
            intro i us us' W h hf
            match i with
            | 0 =>
              have e0 := h 0 (.inl rfl)
              try dsimp only at hf ⊢
              rw [e0] at hf
              exact hf
            | 1 =>
              have e1 := h 1 (.inl rfl)
              try dsimp only at hf ⊢
              rw [e1] at hf
              exact hf
            | 2 =>
              have e2 := h 2 (.inl rfl)
              try dsimp only at hf ⊢
              rw [e2] at hf
              exact hf
            | 3 =>
              have e3 := h 3 (.inl rfl)
              try dsimp only at hf ⊢
              rw [e3] at hf
              exact hf
            | 4 =>
              have e4 := h 4 (.inl rfl)
              try dsimp only at hf ⊢
              rw [e4] at hf
              exact hf
            | 5 =>
              have e5 := h 5 (.inl rfl)
              try dsimp only at hf ⊢
              rw [e5] at hf
              exact hf
            | 6 =>
              have e6 := h 6 (.inl rfl)
              try dsimp only at hf ⊢
              rw [e6] at hf
              exact hf
            | 7 =>
              have e7 := h 7 (.inl rfl)
              try dsimp only at hf ⊢
              rw [e7] at hf
              exact hf
            | 8 =>
              have e7 := h 7 (.inr (by kernel_rfl))
              try dsimp only at hf ⊢
              rw [e7] at hf
              exact hf
            | n + 9 => trivial
          case hstB =>
            intro i j us W W' hne hw hi hj hE hf
            match i with
            | 0 => exact hf
            | 1 => exact hf
            | 2 => exact hf
            | 3 => exact hf
            | 4 => exact hf
            | 5 => exact hf
            | 6 =>
              exact Hp.ea (by decide) (by decide) hE hf
            | 7 =>
              exact Nw3.ea hE hf
            | 8 =>
              exact Yb3.ea hE (Ne.symm hne) hf
            | n + 9 => trivial
          case hG0B =>
            exact (Below.refl _ wr).drew
          case hGB =>
            intro j W W' hE hg
            exact Ea.below hE hg hg.size
          case hopB =>
            intro i hi us W hg hd hq
            match i, hi with
            | 0, _ =>
              clear hd hq
              have q0 := (hg.cell (p := ⟨bH, 0, none⟩) LH.out).trans Y0.out
              have q1 := (hg.cell (p := ⟨bH, 1, none⟩) LH.out).trans Y1.out
              have q2 := (hg.cell (p := ⟨bH, 2, none⟩) LH.out).trans Y2.out
              have ql := Nat.lt_of_lt_of_le LH.out hg.size
              refine all_value rfl rfl (.agg #[.int .i64 (kk : Int), .int .i64 0, .slice A N c]) W (by go_simp) ?_ ?_
              · exact .inl (Grows.refl _)
              · rfl
            | 1, _ =>
              have h0 : us 0 = .agg #[.int .i64 (kk : Int), .int .i64 0, .slice A N c] := hd 0 (by kernel_rfl)
              clear hd hq
              refine all_call rfl rfl 11 #[.agg #[.int .i64 (kk : Int), .int .i64 0, .slice A N c]] (by go_simp) ?_
              exact (lmade_any _ _ _ _ _ W).mono fun _ W' ⟨he, hb⟩ => ⟨_, he, .inl hb, rfl⟩
            | 2, _ =>
              clear hd hq
              refine all_value rfl rfl (.pointer (some ⟨bX, 0, none⟩)) W (by go_simp) ?_ ?_
              · exact .inl (Grows.refl _)
              · rfl
            | 3, _ =>
              have h2 : us 2 = .pointer (some ⟨bX, 0, none⟩) := hd 2 (by kernel_rfl)
              clear hd hq
              have qa := (hg.cell (p := ⟨bX, 0, none⟩) LX.out).trans X0.out
              have ql := Nat.lt_of_lt_of_le LX.out hg.size
              refine all_value rfl rfl (.int .u64 (n0 : Int)) W (by go_simp) ?_ ?_
              · exact .inl (Grows.refl _)
              · rfl
            | 4, _ =>
              clear hd hq
              refine all_value rfl rfl (.pointer (some ⟨bX, 1, none⟩)) W (by go_simp) ?_ ?_
              · exact .inl (Grows.refl _)
              · rfl
            | 5, _ =>
              have h4 : us 4 = .pointer (some ⟨bX, 1, none⟩) := hd 4 (by kernel_rfl)
              clear hd hq
              have qa := (hg.cell (p := ⟨bX, 1, none⟩) LX.out).trans X1.out
              have ql := Nat.lt_of_lt_of_le LX.out hg.size
              refine all_value rfl rfl (.int .u64 (n1 : Int)) W (by go_simp) ?_ ?_
              · exact .inl (Grows.refl _)
              · rfl
            | 6, _ =>
              have h1 : us 1 = .agg #[.int .i64 (kk : Int), .int .i64 0, .slice A N c] := hd 1 (by kernel_rfl)
              have h3 : us 3 = .int .u64 (n0 : Int) := hd 3 (by kernel_rfl)
              have h5 : us 5 = .int .u64 (n1 : Int) := hd 5 (by kernel_rfl)
              clear hd hq
              refine all_call rfl rfl 18 #[.agg #[.int .i64 (kk : Int), .int .i64 0, .slice A N c], .int .u64 (n0 : Int), .int .u64 (n1 : Int)] (by go_simp) ?_
              exact (HD1.out W hg).mono fun _ W' ⟨A', c', he, hL, hb⟩ => ⟨_, he, .inl hb, ⟨A', c', rfl, hL⟩⟩
            | 7, _ =>
              clear hd hq
              refine all_value rfl rfl (.pointer (some ⟨W.heap.size, 0, none⟩)) (W.alloc (.cells #[.int .i64 0, .int .i64 0, .slice none 0 0] 32)) (by go_simp) ?_ ?_
              · exact .inl (Grows.alloc _ _)
              · exact ⟨W.heap.size, _, _, _, rfl, hg.size, World.alloc_heap_new _ _⟩
            | 8, _ =>
              have h7 : Nw3 32 wr.heap.size (us 7) W := hd 7 (by kernel_rfl)
              have h6 : Hp (kk : Int) D (us 6) W := hd 6 (by kernel_rfl)
              clear hd hq
              obtain ⟨A', c', e9, hL⟩ := h6
              obtain ⟨p, x0, x1, x2, e11, hp, hblk⟩ := h7
              obtain ⟨q0, q1, q2⟩ := box3 hblk
              have f0 : ∀ i, W.frozen? ⟨p, i, none⟩ = false := fun i => by simp [World.frozen?, hblk]
              have HBK := Lib.hid hblk
              have hlp := lt_of hblk
              clear hblk
              refine all_skip rfl rfl (((W.setCell ⟨p, 0, none⟩ (.int .i64 (kk : Int))).setCell ⟨p, 1, none⟩ (.int .i64 0)).setCell ⟨p, 2, none⟩ (.slice A' D.length c')) (by go_simp) ?_ ?_
              · exact .inr ⟨rfl, st3_set hp HBK.out _ _ _⟩
              · exact ⟨p, A', c', e11, hp, set3 HBK.out _ _ _, levs_set3 (by decide) (by decide) HBK.out _ _ _ hL⟩
            | n + 9, h => exact absurd h (by simp)
          case hendB =>
            intro us W hg hf
            have h8 : Yb3 32 wr.heap.size (kk : Int) D (us 7) W := hf 8 (by simp)
            clear hf
            obtain ⟨p, Ap, cp, e11, hp, hblk, hLp⟩ := h8
            rw [e11]
            have tH := (hg.block bH LH.out).trans PH.out
            obtain ⟨y0, y1, y2⟩ := box3 tH
            obtain ⟨z0', z1', z2'⟩ := box3 hblk
            have P5 := Lib.hid hblk
            have L5 := Lib.hid (lt_of hblk)
            have Z0 := Lib.hid z0'
            have Z1 := Lib.hid z1'
            have Z2 := Lib.hid z2'
            have LH5 := Lib.hid (lt_of tH)
            have YY0 := Lib.hid y0
            have HL5 := Lib.hid hLp
            have HB5 := Lib.hid (thn HBW.out hg)
            clear tH y0 y1 y2 z0' z1' z2' hblk hLp hg e11 hp PH LH Y0 Y1 Y2 PX LX X0 X1
            rename World => W5
            generalize D.length = M at *
            go_upto_region 15 with (fail)
            by_cases hx0 : ex = 0
            · subst hx0
              have hc0 := HZ.out rfl
              subst hc0
              refine region_facts0 (fr := ?frC) 19 [74, 75, 76, 77, 78, 79, 80, 81, 82, 83, 84, 85, 86, 87, 88, 89, 90, 91, 92] (fun i v W => match i with
                  | 0 => v = .bool true
                  | 1 => v = .bool true
                  | 2 => v = .agg #[.int .i64 (kk : Int), .int .i64 0, .slice Ap M cp]
                  | 3 => v = .int .i64 0
                  | 4 => v = .pointer (some ⟨bH, 0, none⟩)
                  | 5 => v = .int .i64 (kk : Int)
                  | 6 => v = .int .u64 0
                  | 7 => v = .int .i64 (bo : Int)
                  | 8 => v = .bool true
                  | 9 => v = .bool true
                  | 10 => v = .bool true
                  | 11 => v = .int .u64 0
                  | 12 => v = .bool false
                  | 13 => v = .bool false
                  | 14 => v = .agg #[.int .i64 (kk : Int), .int .i64 0, .slice Ap M cp]
                  | 15 => v = .int .i64 0
                  | 16 => v = .bool true
                  | 17 => v = .bool true
                  | 18 => v = .bool true
                  | _ => True) rfl ?hBC (by kernel_rfl) (by kernel_rfl) (by kernel_rfl) ?hfrC ?hFC ?hopC ?htailC
              case hBC => kernel_rfl
              case hfrC =>
                intro us
                simp only [putL]
                go_simp
                rfl
              case hFC =>
                intro i v W W' hG h
                match i with
                | 0 => exact h
                | 1 => exact h
                | 2 => exact h
                | 3 => exact h
                | 4 => exact h
                | 5 => exact h
                | 6 => exact h
                | 7 => exact h
                | 8 => exact h
                | 9 => exact h
                | 10 => exact h
                | 11 => exact h
                | 12 => exact h
                | 13 => exact h
                | 14 => exact h
                | 15 => exact h
                | 16 => exact h
                | 17 => exact h
                | 18 => exact h
                | n + 19 => trivial
              case hopC =>
                intro i hi us W2 hG hd
                match i, hi with
                | 0, _ =>
                  clear hd
                  exact hop_value rfl rfl rfl (v := .bool true) (W' := W2) (by go_simp) (Grows.refl _) rfl
                | 1, _ =>
                  have h0 : us 0 = .bool true := hd 0 (by omega) (by kernel_rfl)
                  clear hd
                  exact hop_value rfl rfl rfl (v := .bool true) (W' := W2) (by go_simp) (Grows.refl _) rfl
                | 2, _ =>
                  have h1 : us 1 = .bool true := hd 1 (by omega) (by kernel_rfl)
                  clear hd
                  rw [h1]
                  have q0 := (hG.cell (b := p) (o := 0) L5.out).trans Z0.out
                  have q0l := Nat.lt_of_lt_of_le L5.out hG.size
                  have q1 := (hG.cell (b := p) (o := 1) L5.out).trans Z1.out
                  have q1l := Nat.lt_of_lt_of_le L5.out hG.size
                  have q2 := (hG.cell (b := p) (o := 2) L5.out).trans Z2.out
                  have q2l := Nat.lt_of_lt_of_le L5.out hG.size
                  exact hop_value rfl rfl rfl (v := .agg #[.int .i64 (kk : Int), .int .i64 0, .slice Ap M cp]) (W' := W2) (by go_simp) (Grows.refl _) rfl
                | 3, _ =>
                  have h1 : us 1 = .bool true := hd 1 (by omega) (by kernel_rfl)
                  have h2 : us 2 = .agg #[.int .i64 (kk : Int), .int .i64 0, .slice Ap M cp] := hd 2 (by omega) (by kernel_rfl)
                  clear hd
                  rw [h1]
                  refine hop_call rfl rfl rfl (f := 13) (args := #[.agg #[.int .i64 (kk : Int), .int .i64 0, .slice Ap M cp]]) (by go_simp) ?_
                  refine (HBK.out W2 Ap cp (HL5.out.grow hG)).mono ?_
                  rintro e W' ⟨rfl, hb⟩
                  exact ⟨_, rfl, hb, rfl⟩
                | 4, _ =>
                  have h1 : us 1 = .bool true := hd 1 (by omega) (by kernel_rfl)
                  clear hd
                  rw [h1]
                  exact hop_value rfl rfl rfl (v := .pointer (some ⟨bH, 0, none⟩)) (W' := W2) (by go_simp) (Grows.refl _) rfl
                | 5, _ =>
                  have h1 : us 1 = .bool true := hd 1 (by omega) (by kernel_rfl)
                  have h4 : us 4 = .pointer (some ⟨bH, 0, none⟩) := hd 4 (by omega) (by kernel_rfl)
                  clear hd
                  rw [h1]
                  have q := (hG.cell (b := bH) (o := 0) LH5.out).trans YY0.out
                  have ql := Nat.lt_of_lt_of_le LH5.out hG.size
                  exact hop_value rfl rfl rfl (v := .int .i64 (kk : Int)) (W' := W2) (by go_simp) (Grows.refl _) rfl
                | 6, _ =>
                  have h1 : us 1 = .bool true := hd 1 (by omega) (by kernel_rfl)
                  clear hd
                  rw [h1]
                  exact hop_value rfl rfl rfl (v := .int .u64 0) (W' := W2) (by go_simp) (Grows.refl _) rfl
                | 7, _ =>
                  have h1 : us 1 = .bool true := hd 1 (by omega) (by kernel_rfl)
                  have h5 : us 5 = .int .i64 (kk : Int) := hd 5 (by omega) (by kernel_rfl)
                  have h6 : us 6 = .int .u64 0 := hd 6 (by omega) (by kernel_rfl)
                  clear hd
                  rw [h1]
                  refine hop_call rfl rfl rfl (f := 15) (args := #[.int .i64 (kk : Int), .int .i64 0, .int .u64 0]) (by go_simp) ?_
                  refine (HBB.out W2).mono ?_
                  rintro e W' ⟨rfl, rfl⟩
                  exact ⟨_, rfl, Grows.refl _, rfl⟩
                | 8, _ =>
                  have h1 : us 1 = .bool true := hd 1 (by omega) (by kernel_rfl)
                  have h3 : us 3 = .int .i64 0 := hd 3 (by omega) (by kernel_rfl)
                  have h7 : us 7 = .int .i64 (bo : Int) := hd 7 (by omega) (by kernel_rfl)
                  clear hd
                  rw [h1]
                  exact hop_value rfl rfl rfl (v := .bool true) (W' := W2) (by go_simp) (Grows.refl _) rfl
                | 9, _ =>
                  have h1 : us 1 = .bool true := hd 1 (by omega) (by kernel_rfl)
                  have h8 : us 8 = .bool true := hd 8 (by omega) (by kernel_rfl)
                  clear hd
                  exact hop_value rfl rfl rfl (v := .bool true) (W' := W2) (by go_simp) (Grows.refl _) rfl
                | 10, _ =>
                  have h9 : us 9 = .bool true := hd 9 (by omega) (by kernel_rfl)
                  clear hd
                  exact hop_value rfl rfl rfl (v := .bool true) (W' := W2) (by go_simp) (Grows.refl _) rfl
                | 11, _ =>
                  have h10 : us 10 = .bool true := hd 10 (by omega) (by kernel_rfl)
                  clear hd
                  rw [h10]
                  exact hop_value rfl rfl rfl (v := .int .u64 0) (W' := W2) (by go_simp) (Grows.refl _) rfl
                | 12, _ =>
                  have h10 : us 10 = .bool true := hd 10 (by omega) (by kernel_rfl)
                  have h11 : us 11 = .int .u64 0 := hd 11 (by omega) (by kernel_rfl)
                  clear hd
                  rw [h10]
                  exact hop_value rfl rfl rfl (v := .bool false) (W' := W2) (by go_simp) (Grows.refl _) rfl
                | 13, _ =>
                  have h10 : us 10 = .bool true := hd 10 (by omega) (by kernel_rfl)
                  have h12 : us 12 = .bool false := hd 12 (by omega) (by kernel_rfl)
                  clear hd
                  rw [h10]
                  exact hop_value rfl rfl rfl (v := .bool false) (W' := W2) (by go_simp) (Grows.refl _) rfl
                | 14, _ =>
                  have h13 : us 13 = .bool false := hd 13 (by omega) (by kernel_rfl)
                  clear hd
                  rw [h13]
                  have q0 := (hG.cell (b := p) (o := 0) L5.out).trans Z0.out
                  have q0l := Nat.lt_of_lt_of_le L5.out hG.size
                  have q1 := (hG.cell (b := p) (o := 1) L5.out).trans Z1.out
                  have q1l := Nat.lt_of_lt_of_le L5.out hG.size
                  have q2 := (hG.cell (b := p) (o := 2) L5.out).trans Z2.out
                  have q2l := Nat.lt_of_lt_of_le L5.out hG.size
                  exact hop_value rfl rfl rfl (v := .agg #[.int .i64 (kk : Int), .int .i64 0, .slice Ap M cp]) (W' := W2) (by go_simp) (Grows.refl _) rfl
                | 15, _ =>
                  have h13 : us 13 = .bool false := hd 13 (by omega) (by kernel_rfl)
                  have h14 : us 14 = .agg #[.int .i64 (kk : Int), .int .i64 0, .slice Ap M cp] := hd 14 (by omega) (by kernel_rfl)
                  clear hd
                  rw [h13]
                  refine hop_call rfl rfl rfl (f := 13) (args := #[.agg #[.int .i64 (kk : Int), .int .i64 0, .slice Ap M cp]]) (by go_simp) ?_
                  refine (HBK.out W2 Ap cp (HL5.out.grow hG)).mono ?_
                  rintro e W' ⟨rfl, hb⟩
                  exact ⟨_, rfl, hb, rfl⟩
                | 16, _ =>
                  have h13 : us 13 = .bool false := hd 13 (by omega) (by kernel_rfl)
                  have h15 : us 15 = .int .i64 0 := hd 15 (by omega) (by kernel_rfl)
                  clear hd
                  rw [h13]
                  exact hop_value rfl rfl rfl (v := .bool true) (W' := W2) (by go_simp) (Grows.refl _) rfl
                | 17, _ =>
                  have h10 : us 10 = .bool true := hd 10 (by omega) (by kernel_rfl)
                  have h13 : us 13 = .bool false := hd 13 (by omega) (by kernel_rfl)
                  have h16 : us 16 = .bool true := hd 16 (by omega) (by kernel_rfl)
                  clear hd
                  rw [h10]
                  exact hop_value rfl rfl rfl (v := .bool true) (W' := W2) (by go_simp) (Grows.refl _) rfl
                | 18, _ =>
                  have h10 : us 10 = .bool true := hd 10 (by omega) (by kernel_rfl)
                  have h17 : us 17 = .bool true := hd 17 (by omega) (by kernel_rfl)
                  clear hd
                  exact hop_value rfl rfl rfl (v := .bool true) (W' := W2) (by go_simp) (Grows.refl _) rfl
                | d + 19, h => exact absurd h (by omega)
              case htailC =>
                intro us W2 hG hf
                have hz : us 18 = .bool true := hf 18 (by omega)
                clear hf
                rw [hz]
                have HG2 := Lib.hid hG
                clear hz hG
                simp only [List.drop_succ_cons, List.drop_zero]
                repeat (go_big_quiet_step (fail))
                refine wpQuiet_nil ?_
                rintro w' ⟨nq, rfl⟩
                have HBX := Lib.hid (below_drewN HG2.out nq)
                clear HG2
                generalize W2.drewN nq = wy at *
                go_wp2
                go_ret
                exact ⟨rfl, thn HB5.out HBX.out⟩
            · have dpos : decide (0 < ex) = true := by simp; omega
              refine region_facts0 (fr := ?frD) 19 [74, 75, 76, 77, 78, 79, 80, 81, 82, 83, 84, 85, 86, 87, 88, 89, 90, 91, 92] (fun i v W => match i with
                  | 0 => v = .bool true
                  | 1 => v = .bool true
                  | 2 => v = .agg #[.int .i64 (kk : Int), .int .i64 0, .slice Ap M cp]
                  | 3 => v = .int .i64 (cn : Int)
                  | 4 => v = .pointer (some ⟨bH, 0, none⟩)
                  | 5 => v = .int .i64 (kk : Int)
                  | 6 => v = .int .u64 (ex : Int)
                  | 7 => v = .int .i64 (bo : Int)
                  | 8 => v = .bool true
                  | 9 => v = .bool true
                  | 10 => v = .bool true
                  | 11 => v = .int .u64 (ex : Int)
                  | 12 => v = .bool true
                  | 13 => v = .bool true
                  | 14 => v = undef
                  | 15 => v = undef
                  | 16 => v = undef
                  | 17 => v = .bool true
                  | 18 => v = .bool true
                  | _ => True) rfl ?hBD (by kernel_rfl) (by kernel_rfl) (by kernel_rfl) ?hfrD ?hFD ?hopD ?htailD
              case hBD => kernel_rfl
              case hfrD =>
                intro us
                simp only [putL]
                go_simp
                rfl
              case hFD =>
                intro i v W W' hG h
                match i with
                | 0 => exact h
                | 1 => exact h
                | 2 => exact h
                | 3 => exact h
                | 4 => exact h
                | 5 => exact h
                | 6 => exact h
                | 7 => exact h
                | 8 => exact h
                | 9 => exact h
                | 10 => exact h
                | 11 => exact h
                | 12 => exact h
                | 13 => exact h
                | 14 => exact h
                | 15 => exact h
                | 16 => exact h
                | 17 => exact h
                | 18 => exact h
                | n + 19 => trivial
              case hopD =>
                intro i hi us W2 hG hd
                match i, hi with
                | 0, _ =>
                  clear hd
                  exact hop_value rfl rfl rfl (v := .bool true) (W' := W2) (by go_simp) (Grows.refl _) rfl
                | 1, _ =>
                  have h0 : us 0 = .bool true := hd 0 (by omega) (by kernel_rfl)
                  clear hd
                  exact hop_value rfl rfl rfl (v := .bool true) (W' := W2) (by go_simp) (Grows.refl _) rfl
                | 2, _ =>
                  have h1 : us 1 = .bool true := hd 1 (by omega) (by kernel_rfl)
                  clear hd
                  rw [h1]
                  have q0 := (hG.cell (b := p) (o := 0) L5.out).trans Z0.out
                  have q0l := Nat.lt_of_lt_of_le L5.out hG.size
                  have q1 := (hG.cell (b := p) (o := 1) L5.out).trans Z1.out
                  have q1l := Nat.lt_of_lt_of_le L5.out hG.size
                  have q2 := (hG.cell (b := p) (o := 2) L5.out).trans Z2.out
                  have q2l := Nat.lt_of_lt_of_le L5.out hG.size
                  exact hop_value rfl rfl rfl (v := .agg #[.int .i64 (kk : Int), .int .i64 0, .slice Ap M cp]) (W' := W2) (by go_simp) (Grows.refl _) rfl
                | 3, _ =>
                  have h1 : us 1 = .bool true := hd 1 (by omega) (by kernel_rfl)
                  have h2 : us 2 = .agg #[.int .i64 (kk : Int), .int .i64 0, .slice Ap M cp] := hd 2 (by omega) (by kernel_rfl)
                  clear hd
                  rw [h1]
                  refine hop_call rfl rfl rfl (f := 13) (args := #[.agg #[.int .i64 (kk : Int), .int .i64 0, .slice Ap M cp]]) (by go_simp) ?_
                  refine (HBK.out W2 Ap cp (HL5.out.grow hG)).mono ?_
                  rintro e W' ⟨rfl, hb⟩
                  exact ⟨_, rfl, hb, rfl⟩
                | 4, _ =>
                  have h1 : us 1 = .bool true := hd 1 (by omega) (by kernel_rfl)
                  clear hd
                  rw [h1]
                  exact hop_value rfl rfl rfl (v := .pointer (some ⟨bH, 0, none⟩)) (W' := W2) (by go_simp) (Grows.refl _) rfl
                | 5, _ =>
                  have h1 : us 1 = .bool true := hd 1 (by omega) (by kernel_rfl)
                  have h4 : us 4 = .pointer (some ⟨bH, 0, none⟩) := hd 4 (by omega) (by kernel_rfl)
                  clear hd
                  rw [h1]
                  have q := (hG.cell (b := bH) (o := 0) LH5.out).trans YY0.out
                  have ql := Nat.lt_of_lt_of_le LH5.out hG.size
                  exact hop_value rfl rfl rfl (v := .int .i64 (kk : Int)) (W' := W2) (by go_simp) (Grows.refl _) rfl
                | 6, _ =>
                  have h1 : us 1 = .bool true := hd 1 (by omega) (by kernel_rfl)
                  clear hd
                  rw [h1]
                  exact hop_value rfl rfl rfl (v := .int .u64 (ex : Int)) (W' := W2) (by go_simp) (Grows.refl _) rfl
                | 7, _ =>
                  have h1 : us 1 = .bool true := hd 1 (by omega) (by kernel_rfl)
                  have h5 : us 5 = .int .i64 (kk : Int) := hd 5 (by omega) (by kernel_rfl)
                  have h6 : us 6 = .int .u64 (ex : Int) := hd 6 (by omega) (by kernel_rfl)
                  clear hd
                  rw [h1]
                  refine hop_call rfl rfl rfl (f := 15) (args := #[.int .i64 (kk : Int), .int .i64 0, .int .u64 (ex : Int)]) (by go_simp) ?_
                  refine (HBB.out W2).mono ?_
                  rintro e W' ⟨rfl, rfl⟩
                  exact ⟨_, rfl, Grows.refl _, rfl⟩
                | 8, _ =>
                  have h1 : us 1 = .bool true := hd 1 (by omega) (by kernel_rfl)
                  have h3 : us 3 = .int .i64 (cn : Int) := hd 3 (by omega) (by kernel_rfl)
                  have h7 : us 7 = .int .i64 (bo : Int) := hd 7 (by omega) (by kernel_rfl)
                  clear hd
                  rw [h1]
                  exact hop_value rfl rfl rfl (v := .bool true) (W' := W2) (by go_simp) (Grows.refl _) rfl
                | 9, _ =>
                  have h1 : us 1 = .bool true := hd 1 (by omega) (by kernel_rfl)
                  have h8 : us 8 = .bool true := hd 8 (by omega) (by kernel_rfl)
                  clear hd
                  exact hop_value rfl rfl rfl (v := .bool true) (W' := W2) (by go_simp) (Grows.refl _) rfl
                | 10, _ =>
                  have h9 : us 9 = .bool true := hd 9 (by omega) (by kernel_rfl)
                  clear hd
                  exact hop_value rfl rfl rfl (v := .bool true) (W' := W2) (by go_simp) (Grows.refl _) rfl
                | 11, _ =>
                  have h10 : us 10 = .bool true := hd 10 (by omega) (by kernel_rfl)
                  clear hd
                  rw [h10]
                  exact hop_value rfl rfl rfl (v := .int .u64 (ex : Int)) (W' := W2) (by go_simp) (Grows.refl _) rfl
                | 12, _ =>
                  have h10 : us 10 = .bool true := hd 10 (by omega) (by kernel_rfl)
                  have h11 : us 11 = .int .u64 (ex : Int) := hd 11 (by omega) (by kernel_rfl)
                  clear hd
                  rw [h10]
                  exact hop_value rfl rfl rfl (v := .bool true) (W' := W2) (by go_simp) (Grows.refl _) rfl
                | 13, _ =>
                  have h10 : us 10 = .bool true := hd 10 (by omega) (by kernel_rfl)
                  have h12 : us 12 = .bool true := hd 12 (by omega) (by kernel_rfl)
                  clear hd
                  rw [h10]
                  exact hop_value rfl rfl rfl (v := .bool true) (W' := W2) (by go_simp) (Grows.refl _) rfl
                | 14, _ =>
                  have h13 : us 13 = .bool true := hd 13 (by omega) (by kernel_rfl)
                  clear hd
                  rw [h13]
                  exact hop_off rfl rfl rfl rfl
                | 15, _ =>
                  have h13 : us 13 = .bool true := hd 13 (by omega) (by kernel_rfl)
                  clear hd
                  rw [h13]
                  exact hop_off rfl rfl rfl rfl
                | 16, _ =>
                  have h13 : us 13 = .bool true := hd 13 (by omega) (by kernel_rfl)
                  clear hd
                  rw [h13]
                  exact hop_off rfl rfl rfl rfl
                | 17, _ =>
                  have h10 : us 10 = .bool true := hd 10 (by omega) (by kernel_rfl)
                  have h13 : us 13 = .bool true := hd 13 (by omega) (by kernel_rfl)
                  have h16 : us 16 = undef := hd 16 (by omega) (by kernel_rfl)
                  clear hd
                  rw [h10]
                  exact hop_value rfl rfl rfl (v := .bool true) (W' := W2) (by go_simp) (Grows.refl _) rfl
                | 18, _ =>
                  have h10 : us 10 = .bool true := hd 10 (by omega) (by kernel_rfl)
                  have h17 : us 17 = .bool true := hd 17 (by omega) (by kernel_rfl)
                  clear hd
                  exact hop_value rfl rfl rfl (v := .bool true) (W' := W2) (by go_simp) (Grows.refl _) rfl
                | d + 19, h => exact absurd h (by omega)
              case htailD =>
                intro us W2 hG hf
                have hz : us 18 = .bool true := hf 18 (by omega)
                clear hf
                rw [hz]
                have HG2 := Lib.hid hG
                clear hz hG
                simp only [List.drop_succ_cons, List.drop_zero]
                repeat (go_big_quiet_step (fail))
                refine wpQuiet_nil ?_
                rintro w' ⟨nq, rfl⟩
                have HBX := Lib.hid (below_drewN HG2.out nq)
                clear HG2
                generalize W2.drewN nq = wy at *
                go_wp2
                go_ret
                exact ⟨rfl, thn HB5.out HBX.out⟩
        · have g1 : decide (j < nd) = false := by simpa using h1
          clear hlt
          go_upto_region 14 with (fail)
          refine region_all (fr := ?frE) (fun i us W => match i with
              | 0 => us 0 = .agg #[.int .i64 (kk : Int), .int .i64 0, .slice A N c]
              | 1 => us 1 = .agg #[.int .i64 (kk : Int), .int .i64 0, .slice A N c]
              | 2 => us 2 = .pointer (some ⟨bX, 0, none⟩)
              | 3 => us 3 = .int .u64 (n0 : Int)
              | 4 => us 4 = .pointer (some ⟨bX, 1, none⟩)
              | 5 => us 5 = .int .u64 (n1 : Int)
              | 6 => Hp (kk : Int) D (us 6) W
              | 7 => Nw3 32 wr.heap.size (us 7) W
              | 8 => Yb3 32 wr.heap.size (kk : Int) D (us 7) W
              | _ => True) (fun j W W' => Ea 32 wr.heap.size 8 j W W') (fun W => Below wr.heap.size wr W) rfl ?hBE ?hfrE ?hlocE ?hstE ?hG0E ?hGE ?hopE ?hendE
          case hBE => kernel_rfl
          case hfrE =>
            intro us
            simp only [List.length_cons, List.length_nil, Nat.zero_add, Nat.reduceAdd, putO, dstO]
            go_simp
            rfl
          case hlocE =>
            intro i us us' W h hf
            match i with
            | 0 =>
              have e0 := h 0 (.inl rfl)
              try dsimp only at hf ⊢
              rw [e0] at hf
              exact hf
            | 1 =>
              have e1 := h 1 (.inl rfl)
              try dsimp only at hf ⊢
              rw [e1] at hf
              exact hf
            | 2 =>
              have e2 := h 2 (.inl rfl)
              try dsimp only at hf ⊢
              rw [e2] at hf
              exact hf
            | 3 =>
              have e3 := h 3 (.inl rfl)
              try dsimp only at hf ⊢
              rw [e3] at hf
              exact hf
            | 4 =>
              have e4 := h 4 (.inl rfl)
              try dsimp only at hf ⊢
              rw [e4] at hf
              exact hf
            | 5 =>
              have e5 := h 5 (.inl rfl)
              try dsimp only at hf ⊢
              rw [e5] at hf
              exact hf
            | 6 =>
              have e6 := h 6 (.inl rfl)
              try dsimp only at hf ⊢
              rw [e6] at hf
              exact hf
            | 7 =>
              have e7 := h 7 (.inl rfl)
              try dsimp only at hf ⊢
              rw [e7] at hf
              exact hf
            | 8 =>
              have e7 := h 7 (.inr (by kernel_rfl))
              try dsimp only at hf ⊢
              rw [e7] at hf
              exact hf
            | n + 9 => trivial
          case hstE =>
            intro i j us W W' hne hw hi hj hE hf
            match i with
            | 0 => exact hf
            | 1 => exact hf
            | 2 => exact hf
            | 3 => exact hf
            | 4 => exact hf
            | 5 => exact hf
            | 6 =>
              exact Hp.ea (by decide) (by decide) hE hf
            | 7 =>
              exact Nw3.ea hE hf
            | 8 =>
              exact Yb3.ea hE (Ne.symm hne) hf
            | n + 9 => trivial
          case hG0E =>
            exact (Below.refl _ wr).drew
          case hGE =>
            intro j W W' hE hg
            exact Ea.below hE hg hg.size
          case hopE =>
            intro i hi us W hg hd hq
            match i, hi with
            | 0, _ =>
              clear hd hq
              have q0 := (hg.cell (p := ⟨bH, 0, none⟩) LH.out).trans Y0.out
              have q1 := (hg.cell (p := ⟨bH, 1, none⟩) LH.out).trans Y1.out
              have q2 := (hg.cell (p := ⟨bH, 2, none⟩) LH.out).trans Y2.out
              have ql := Nat.lt_of_lt_of_le LH.out hg.size
              refine all_value rfl rfl (.agg #[.int .i64 (kk : Int), .int .i64 0, .slice A N c]) W (by go_simp) ?_ ?_
              · exact .inl (Grows.refl _)
              · rfl
            | 1, _ =>
              have h0 : us 0 = .agg #[.int .i64 (kk : Int), .int .i64 0, .slice A N c] := hd 0 (by kernel_rfl)
              clear hd hq
              refine all_call rfl rfl 11 #[.agg #[.int .i64 (kk : Int), .int .i64 0, .slice A N c]] (by go_simp) ?_
              exact (lmade_any _ _ _ _ _ W).mono fun _ W' ⟨he, hb⟩ => ⟨_, he, .inl hb, rfl⟩
            | 2, _ =>
              clear hd hq
              refine all_value rfl rfl (.pointer (some ⟨bX, 0, none⟩)) W (by go_simp) ?_ ?_
              · exact .inl (Grows.refl _)
              · rfl
            | 3, _ =>
              have h2 : us 2 = .pointer (some ⟨bX, 0, none⟩) := hd 2 (by kernel_rfl)
              clear hd hq
              have qa := (hg.cell (p := ⟨bX, 0, none⟩) LX.out).trans X0.out
              have ql := Nat.lt_of_lt_of_le LX.out hg.size
              refine all_value rfl rfl (.int .u64 (n0 : Int)) W (by go_simp) ?_ ?_
              · exact .inl (Grows.refl _)
              · rfl
            | 4, _ =>
              clear hd hq
              refine all_value rfl rfl (.pointer (some ⟨bX, 1, none⟩)) W (by go_simp) ?_ ?_
              · exact .inl (Grows.refl _)
              · rfl
            | 5, _ =>
              have h4 : us 4 = .pointer (some ⟨bX, 1, none⟩) := hd 4 (by kernel_rfl)
              clear hd hq
              have qa := (hg.cell (p := ⟨bX, 1, none⟩) LX.out).trans X1.out
              have ql := Nat.lt_of_lt_of_le LX.out hg.size
              refine all_value rfl rfl (.int .u64 (n1 : Int)) W (by go_simp) ?_ ?_
              · exact .inl (Grows.refl _)
              · rfl
            | 6, _ =>
              have h1 : us 1 = .agg #[.int .i64 (kk : Int), .int .i64 0, .slice A N c] := hd 1 (by kernel_rfl)
              have h3 : us 3 = .int .u64 (n0 : Int) := hd 3 (by kernel_rfl)
              have h5 : us 5 = .int .u64 (n1 : Int) := hd 5 (by kernel_rfl)
              clear hd hq
              refine all_call rfl rfl 18 #[.agg #[.int .i64 (kk : Int), .int .i64 0, .slice A N c], .int .u64 (n0 : Int), .int .u64 (n1 : Int)] (by go_simp) ?_
              exact (HD1.out W hg).mono fun _ W' ⟨A', c', he, hL, hb⟩ => ⟨_, he, .inl hb, ⟨A', c', rfl, hL⟩⟩
            | 7, _ =>
              clear hd hq
              refine all_value rfl rfl (.pointer (some ⟨W.heap.size, 0, none⟩)) (W.alloc (.cells #[.int .i64 0, .int .i64 0, .slice none 0 0] 32)) (by go_simp) ?_ ?_
              · exact .inl (Grows.alloc _ _)
              · exact ⟨W.heap.size, _, _, _, rfl, hg.size, World.alloc_heap_new _ _⟩
            | 8, _ =>
              have h7 : Nw3 32 wr.heap.size (us 7) W := hd 7 (by kernel_rfl)
              have h6 : Hp (kk : Int) D (us 6) W := hd 6 (by kernel_rfl)
              clear hd hq
              obtain ⟨A', c', e9, hL⟩ := h6
              obtain ⟨p, x0, x1, x2, e11, hp, hblk⟩ := h7
              obtain ⟨q0, q1, q2⟩ := box3 hblk
              have f0 : ∀ i, W.frozen? ⟨p, i, none⟩ = false := fun i => by simp [World.frozen?, hblk]
              have HBK := Lib.hid hblk
              have hlp := lt_of hblk
              clear hblk
              refine all_skip rfl rfl (((W.setCell ⟨p, 0, none⟩ (.int .i64 (kk : Int))).setCell ⟨p, 1, none⟩ (.int .i64 0)).setCell ⟨p, 2, none⟩ (.slice A' D.length c')) (by go_simp) ?_ ?_
              · exact .inr ⟨rfl, st3_set hp HBK.out _ _ _⟩
              · exact ⟨p, A', c', e11, hp, set3 HBK.out _ _ _, levs_set3 (by decide) (by decide) HBK.out _ _ _ hL⟩
            | n + 9, h => exact absurd h (by simp)
          case hendE =>
            intro us W hg hf
            have h8 : Yb3 32 wr.heap.size (kk : Int) D (us 7) W := hf 8 (by simp)
            clear hf
            obtain ⟨p, Ap, cp, e11, hp, hblk, hLp⟩ := h8
            rw [e11]
            have tH := (hg.block bH LH.out).trans PH.out
            obtain ⟨y0, y1, y2⟩ := box3 tH
            obtain ⟨z0', z1', z2'⟩ := box3 hblk
            have P5 := Lib.hid hblk
            have L5 := Lib.hid (lt_of hblk)
            have Z0 := Lib.hid z0'
            have Z1 := Lib.hid z1'
            have Z2 := Lib.hid z2'
            have LH5 := Lib.hid (lt_of tH)
            have YY0 := Lib.hid y0
            have HL5 := Lib.hid hLp
            have HB5 := Lib.hid (thn HBW.out hg)
            clear tH y0 y1 y2 z0' z1' z2' hblk hLp hg e11 hp PH LH Y0 Y1 Y2 PX LX X0 X1
            rename World => W5
            generalize D.length = M at *
            go_upto_region 15 with (fail)
            by_cases hx0 : ex = 0
            · subst hx0
              have hc0 := HZ.out rfl
              subst hc0
              refine region_facts0 (fr := ?frF) 19 [74, 75, 76, 77, 78, 79, 80, 81, 82, 83, 84, 85, 86, 87, 88, 89, 90, 91, 92] (fun i v W => match i with
                  | 0 => v = .bool true
                  | 1 => v = .bool true
                  | 2 => v = .agg #[.int .i64 (kk : Int), .int .i64 0, .slice Ap M cp]
                  | 3 => v = .int .i64 0
                  | 4 => v = .pointer (some ⟨bH, 0, none⟩)
                  | 5 => v = .int .i64 (kk : Int)
                  | 6 => v = .int .u64 0
                  | 7 => v = .int .i64 (bo : Int)
                  | 8 => v = .bool true
                  | 9 => v = .bool true
                  | 10 => v = .bool true
                  | 11 => v = .int .u64 0
                  | 12 => v = .bool false
                  | 13 => v = .bool false
                  | 14 => v = .agg #[.int .i64 (kk : Int), .int .i64 0, .slice Ap M cp]
                  | 15 => v = .int .i64 0
                  | 16 => v = .bool true
                  | 17 => v = .bool true
                  | 18 => v = .bool true
                  | _ => True) rfl ?hBF (by kernel_rfl) (by kernel_rfl) (by kernel_rfl) ?hfrF ?hFF ?hopF ?htailF
              case hBF => kernel_rfl
              case hfrF =>
                intro us
                simp only [putL]
                go_simp
                rfl
              case hFF =>
                intro i v W W' hG h
                match i with
                | 0 => exact h
                | 1 => exact h
                | 2 => exact h
                | 3 => exact h
                | 4 => exact h
                | 5 => exact h
                | 6 => exact h
                | 7 => exact h
                | 8 => exact h
                | 9 => exact h
                | 10 => exact h
                | 11 => exact h
                | 12 => exact h
                | 13 => exact h
                | 14 => exact h
                | 15 => exact h
                | 16 => exact h
                | 17 => exact h
                | 18 => exact h
                | n + 19 => trivial
              case hopF =>
                intro i hi us W2 hG hd
                match i, hi with
                | 0, _ =>
                  clear hd
                  exact hop_value rfl rfl rfl (v := .bool true) (W' := W2) (by go_simp) (Grows.refl _) rfl
                | 1, _ =>
                  have h0 : us 0 = .bool true := hd 0 (by omega) (by kernel_rfl)
                  clear hd
                  exact hop_value rfl rfl rfl (v := .bool true) (W' := W2) (by go_simp) (Grows.refl _) rfl
                | 2, _ =>
                  have h1 : us 1 = .bool true := hd 1 (by omega) (by kernel_rfl)
                  clear hd
                  rw [h1]
                  have q0 := (hG.cell (b := p) (o := 0) L5.out).trans Z0.out
                  have q0l := Nat.lt_of_lt_of_le L5.out hG.size
                  have q1 := (hG.cell (b := p) (o := 1) L5.out).trans Z1.out
                  have q1l := Nat.lt_of_lt_of_le L5.out hG.size
                  have q2 := (hG.cell (b := p) (o := 2) L5.out).trans Z2.out
                  have q2l := Nat.lt_of_lt_of_le L5.out hG.size
                  exact hop_value rfl rfl rfl (v := .agg #[.int .i64 (kk : Int), .int .i64 0, .slice Ap M cp]) (W' := W2) (by go_simp) (Grows.refl _) rfl
                | 3, _ =>
                  have h1 : us 1 = .bool true := hd 1 (by omega) (by kernel_rfl)
                  have h2 : us 2 = .agg #[.int .i64 (kk : Int), .int .i64 0, .slice Ap M cp] := hd 2 (by omega) (by kernel_rfl)
                  clear hd
                  rw [h1]
                  refine hop_call rfl rfl rfl (f := 13) (args := #[.agg #[.int .i64 (kk : Int), .int .i64 0, .slice Ap M cp]]) (by go_simp) ?_
                  refine (HBK.out W2 Ap cp (HL5.out.grow hG)).mono ?_
                  rintro e W' ⟨rfl, hb⟩
                  exact ⟨_, rfl, hb, rfl⟩
                | 4, _ =>
                  have h1 : us 1 = .bool true := hd 1 (by omega) (by kernel_rfl)
                  clear hd
                  rw [h1]
                  exact hop_value rfl rfl rfl (v := .pointer (some ⟨bH, 0, none⟩)) (W' := W2) (by go_simp) (Grows.refl _) rfl
                | 5, _ =>
                  have h1 : us 1 = .bool true := hd 1 (by omega) (by kernel_rfl)
                  have h4 : us 4 = .pointer (some ⟨bH, 0, none⟩) := hd 4 (by omega) (by kernel_rfl)
                  clear hd
                  rw [h1]
                  have q := (hG.cell (b := bH) (o := 0) LH5.out).trans YY0.out
                  have ql := Nat.lt_of_lt_of_le LH5.out hG.size
                  exact hop_value rfl rfl rfl (v := .int .i64 (kk : Int)) (W' := W2) (by go_simp) (Grows.refl _) rfl
                | 6, _ =>
                  have h1 : us 1 = .bool true := hd 1 (by omega) (by kernel_rfl)
                  clear hd
                  rw [h1]
                  exact hop_value rfl rfl rfl (v := .int .u64 0) (W' := W2) (by go_simp) (Grows.refl _) rfl
                | 7, _ =>
                  have h1 : us 1 = .bool true := hd 1 (by omega) (by kernel_rfl)
                  have h5 : us 5 = .int .i64 (kk : Int) := hd 5 (by omega) (by kernel_rfl)
                  have h6 : us 6 = .int .u64 0 := hd 6 (by omega) (by kernel_rfl)
                  clear hd
                  rw [h1]
                  refine hop_call rfl rfl rfl (f := 15) (args := #[.int .i64 (kk : Int), .int .i64 0, .int .u64 0]) (by go_simp) ?_
                  refine (HBB.out W2).mono ?_
                  rintro e W' ⟨rfl, rfl⟩
                  exact ⟨_, rfl, Grows.refl _, rfl⟩
                | 8, _ =>
                  have h1 : us 1 = .bool true := hd 1 (by omega) (by kernel_rfl)
                  have h3 : us 3 = .int .i64 0 := hd 3 (by omega) (by kernel_rfl)
                  have h7 : us 7 = .int .i64 (bo : Int) := hd 7 (by omega) (by kernel_rfl)
                  clear hd
                  rw [h1]
                  exact hop_value rfl rfl rfl (v := .bool true) (W' := W2) (by go_simp) (Grows.refl _) rfl
                | 9, _ =>
                  have h1 : us 1 = .bool true := hd 1 (by omega) (by kernel_rfl)
                  have h8 : us 8 = .bool true := hd 8 (by omega) (by kernel_rfl)
                  clear hd
                  exact hop_value rfl rfl rfl (v := .bool true) (W' := W2) (by go_simp) (Grows.refl _) rfl
                | 10, _ =>
                  have h9 : us 9 = .bool true := hd 9 (by omega) (by kernel_rfl)
                  clear hd
                  exact hop_value rfl rfl rfl (v := .bool true) (W' := W2) (by go_simp) (Grows.refl _) rfl
                | 11, _ =>
                  have h10 : us 10 = .bool true := hd 10 (by omega) (by kernel_rfl)
                  clear hd
                  rw [h10]
                  exact hop_value rfl rfl rfl (v := .int .u64 0) (W' := W2) (by go_simp) (Grows.refl _) rfl
                | 12, _ =>
                  have h10 : us 10 = .bool true := hd 10 (by omega) (by kernel_rfl)
                  have h11 : us 11 = .int .u64 0 := hd 11 (by omega) (by kernel_rfl)
                  clear hd
                  rw [h10]
                  exact hop_value rfl rfl rfl (v := .bool false) (W' := W2) (by go_simp) (Grows.refl _) rfl
                | 13, _ =>
                  have h10 : us 10 = .bool true := hd 10 (by omega) (by kernel_rfl)
                  have h12 : us 12 = .bool false := hd 12 (by omega) (by kernel_rfl)
                  clear hd
                  rw [h10]
                  exact hop_value rfl rfl rfl (v := .bool false) (W' := W2) (by go_simp) (Grows.refl _) rfl
                | 14, _ =>
                  have h13 : us 13 = .bool false := hd 13 (by omega) (by kernel_rfl)
                  clear hd
                  rw [h13]
                  have q0 := (hG.cell (b := p) (o := 0) L5.out).trans Z0.out
                  have q0l := Nat.lt_of_lt_of_le L5.out hG.size
                  have q1 := (hG.cell (b := p) (o := 1) L5.out).trans Z1.out
                  have q1l := Nat.lt_of_lt_of_le L5.out hG.size
                  have q2 := (hG.cell (b := p) (o := 2) L5.out).trans Z2.out
                  have q2l := Nat.lt_of_lt_of_le L5.out hG.size
                  exact hop_value rfl rfl rfl (v := .agg #[.int .i64 (kk : Int), .int .i64 0, .slice Ap M cp]) (W' := W2) (by go_simp) (Grows.refl _) rfl
                | 15, _ =>
                  have h13 : us 13 = .bool false := hd 13 (by omega) (by kernel_rfl)
                  have h14 : us 14 = .agg #[.int .i64 (kk : Int), .int .i64 0, .slice Ap M cp] := hd 14 (by omega) (by kernel_rfl)
                  clear hd
                  rw [h13]
                  refine hop_call rfl rfl rfl (f := 13) (args := #[.agg #[.int .i64 (kk : Int), .int .i64 0, .slice Ap M cp]]) (by go_simp) ?_
                  refine (HBK.out W2 Ap cp (HL5.out.grow hG)).mono ?_
                  rintro e W' ⟨rfl, hb⟩
                  exact ⟨_, rfl, hb, rfl⟩
                | 16, _ =>
                  have h13 : us 13 = .bool false := hd 13 (by omega) (by kernel_rfl)
                  have h15 : us 15 = .int .i64 0 := hd 15 (by omega) (by kernel_rfl)
                  clear hd
                  rw [h13]
                  exact hop_value rfl rfl rfl (v := .bool true) (W' := W2) (by go_simp) (Grows.refl _) rfl
                | 17, _ =>
                  have h10 : us 10 = .bool true := hd 10 (by omega) (by kernel_rfl)
                  have h13 : us 13 = .bool false := hd 13 (by omega) (by kernel_rfl)
                  have h16 : us 16 = .bool true := hd 16 (by omega) (by kernel_rfl)
                  clear hd
                  rw [h10]
                  exact hop_value rfl rfl rfl (v := .bool true) (W' := W2) (by go_simp) (Grows.refl _) rfl
                | 18, _ =>
                  have h10 : us 10 = .bool true := hd 10 (by omega) (by kernel_rfl)
                  have h17 : us 17 = .bool true := hd 17 (by omega) (by kernel_rfl)
                  clear hd
                  exact hop_value rfl rfl rfl (v := .bool true) (W' := W2) (by go_simp) (Grows.refl _) rfl
                | d + 19, h => exact absurd h (by omega)
              case htailF =>
                intro us W2 hG hf
                have hz : us 18 = .bool true := hf 18 (by omega)
                clear hf
                rw [hz]
                have HG2 := Lib.hid hG
                clear hz hG
                simp only [List.drop_succ_cons, List.drop_zero]
                repeat (go_big_quiet_step (fail))
                refine wpQuiet_nil ?_
                rintro w' ⟨nq, rfl⟩
                have HBX := Lib.hid (below_drewN HG2.out nq)
                clear HG2
                generalize W2.drewN nq = wy at *
                go_wp2
                go_ret
                exact ⟨rfl, thn HB5.out HBX.out⟩
            · have dpos : decide (0 < ex) = true := by simp; omega
              refine region_facts0 (fr := ?frG) 19 [74, 75, 76, 77, 78, 79, 80, 81, 82, 83, 84, 85, 86, 87, 88, 89, 90, 91, 92] (fun i v W => match i with
                  | 0 => v = .bool true
                  | 1 => v = .bool true
                  | 2 => v = .agg #[.int .i64 (kk : Int), .int .i64 0, .slice Ap M cp]
                  | 3 => v = .int .i64 (cn : Int)
                  | 4 => v = .pointer (some ⟨bH, 0, none⟩)
                  | 5 => v = .int .i64 (kk : Int)
                  | 6 => v = .int .u64 (ex : Int)
                  | 7 => v = .int .i64 (bo : Int)
                  | 8 => v = .bool true
                  | 9 => v = .bool true
                  | 10 => v = .bool true
                  | 11 => v = .int .u64 (ex : Int)
                  | 12 => v = .bool true
                  | 13 => v = .bool true
                  | 14 => v = undef
                  | 15 => v = undef
                  | 16 => v = undef
                  | 17 => v = .bool true
                  | 18 => v = .bool true
                  | _ => True) rfl ?hBG (by kernel_rfl) (by kernel_rfl) (by kernel_rfl) ?hfrG ?hFG ?hopG ?htailG
              case hBG => kernel_rfl
              case hfrG =>
                intro us
                simp only [putL]
                go_simp
                rfl
              case hFG =>
                intro i v W W' hG h
                match i with
                | 0 => exact h
                | 1 => exact h
                | 2 => exact h
                | 3 => exact h
                | 4 => exact h
                | 5 => exact h
                | 6 => exact h
                | 7 => exact h
                | 8 => exact h
                | 9 => exact h
                | 10 => exact h
                | 11 => exact h
                | 12 => exact h
                | 13 => exact h
                | 14 => exact h
                | 15 => exact h
                | 16 => exact h
                | 17 => exact h
                | 18 => exact h
                | n + 19 => trivial
              case hopG =>
                intro i hi us W2 hG hd
                match i, hi with
                | 0, _ =>
                  clear hd
                  exact hop_value rfl rfl rfl (v := .bool true) (W' := W2) (by go_simp) (Grows.refl _) rfl
                | 1, _ =>
                  have h0 : us 0 = .bool true := hd 0 (by omega) (by kernel_rfl)
                  clear hd
                  exact hop_value rfl rfl rfl (v := .bool true) (W' := W2) (by go_simp) (Grows.refl _) rfl
                | 2, _ =>
                  have h1 : us 1 = .bool true := hd 1 (by omega) (by kernel_rfl)
                  clear hd
                  rw [h1]
                  have q0 := (hG.cell (b := p) (o := 0) L5.out).trans Z0.out
                  have q0l := Nat.lt_of_lt_of_le L5.out hG.size
                  have q1 := (hG.cell (b := p) (o := 1) L5.out).trans Z1.out
                  have q1l := Nat.lt_of_lt_of_le L5.out hG.size
                  have q2 := (hG.cell (b := p) (o := 2) L5.out).trans Z2.out
                  have q2l := Nat.lt_of_lt_of_le L5.out hG.size
                  exact hop_value rfl rfl rfl (v := .agg #[.int .i64 (kk : Int), .int .i64 0, .slice Ap M cp]) (W' := W2) (by go_simp) (Grows.refl _) rfl
                | 3, _ =>
                  have h1 : us 1 = .bool true := hd 1 (by omega) (by kernel_rfl)
                  have h2 : us 2 = .agg #[.int .i64 (kk : Int), .int .i64 0, .slice Ap M cp] := hd 2 (by omega) (by kernel_rfl)
                  clear hd
                  rw [h1]
                  refine hop_call rfl rfl rfl (f := 13) (args := #[.agg #[.int .i64 (kk : Int), .int .i64 0, .slice Ap M cp]]) (by go_simp) ?_
                  refine (HBK.out W2 Ap cp (HL5.out.grow hG)).mono ?_
                  rintro e W' ⟨rfl, hb⟩
                  exact ⟨_, rfl, hb, rfl⟩
                | 4, _ =>
                  have h1 : us 1 = .bool true := hd 1 (by omega) (by kernel_rfl)
                  clear hd
                  rw [h1]
                  exact hop_value rfl rfl rfl (v := .pointer (some ⟨bH, 0, none⟩)) (W' := W2) (by go_simp) (Grows.refl _) rfl
                | 5, _ =>
                  have h1 : us 1 = .bool true := hd 1 (by omega) (by kernel_rfl)
                  have h4 : us 4 = .pointer (some ⟨bH, 0, none⟩) := hd 4 (by omega) (by kernel_rfl)
                  clear hd
                  rw [h1]
                  have q := (hG.cell (b := bH) (o := 0) LH5.out).trans YY0.out
                  have ql := Nat.lt_of_lt_of_le LH5.out hG.size
                  exact hop_value rfl rfl rfl (v := .int .i64 (kk : Int)) (W' := W2) (by go_simp) (Grows.refl _) rfl
                | 6, _ =>
                  have h1 : us 1 = .bool true := hd 1 (by omega) (by kernel_rfl)
                  clear hd
                  rw [h1]
                  exact hop_value rfl rfl rfl (v := .int .u64 (ex : Int)) (W' := W2) (by go_simp) (Grows.refl _) rfl
                | 7, _ =>
                  have h1 : us 1 = .bool true := hd 1 (by omega) (by kernel_rfl)
                  have h5 : us 5 = .int .i64 (kk : Int) := hd 5 (by omega) (by kernel_rfl)
                  have h6 : us 6 = .int .u64 (ex : Int) := hd 6 (by omega) (by kernel_rfl)
                  clear hd
                  rw [h1]
                  refine hop_call rfl rfl rfl (f := 15) (args := #[.int .i64 (kk : Int), .int .i64 0, .int .u64 (ex : Int)]) (by go_simp) ?_
                  refine (HBB.out W2).mono ?_
                  rintro e W' ⟨rfl, rfl⟩
                  exact ⟨_, rfl, Grows.refl _, rfl⟩
                | 8, _ =>
                  have h1 : us 1 = .bool true := hd 1 (by omega) (by kernel_rfl)
                  have h3 : us 3 = .int .i64 (cn : Int) := hd 3 (by omega) (by kernel_rfl)
                  have h7 : us 7 = .int .i64 (bo : Int) := hd 7 (by omega) (by kernel_rfl)
                  clear hd
                  rw [h1]
                  exact hop_value rfl rfl rfl (v := .bool true) (W' := W2) (by go_simp) (Grows.refl _) rfl
                | 9, _ =>
                  have h1 : us 1 = .bool true := hd 1 (by omega) (by kernel_rfl)
                  have h8 : us 8 = .bool true := hd 8 (by omega) (by kernel_rfl)
                  clear hd
                  exact hop_value rfl rfl rfl (v := .bool true) (W' := W2) (by go_simp) (Grows.refl _) rfl
                | 10, _ =>
                  have h9 : us 9 = .bool true := hd 9 (by omega) (by kernel_rfl)
                  clear hd
                  exact hop_value rfl rfl rfl (v := .bool true) (W' := W2) (by go_simp) (Grows.refl _) rfl
                | 11, _ =>
                  have h10 : us 10 = .bool true := hd 10 (by omega) (by kernel_rfl)
                  clear hd
                  rw [h10]
                  exact hop_value rfl rfl rfl (v := .int .u64 (ex : Int)) (W' := W2) (by go_simp) (Grows.refl _) rfl
                | 12, _ =>
                  have h10 : us 10 = .bool true := hd 10 (by omega) (by kernel_rfl)
                  have h11 : us 11 = .int .u64 (ex : Int) := hd 11 (by omega) (by kernel_rfl)
                  clear hd
                  rw [h10]
                  exact hop_value rfl rfl rfl (v := .bool true) (W' := W2) (by go_simp) (Grows.refl _) rfl
                | 13, _ =>
                  have h10 : us 10 = .bool true := hd 10 (by omega) (by kernel_rfl)
                  have h12 : us 12 = .bool true := hd 12 (by omega) (by kernel_rfl)
                  clear hd
                  rw [h10]
                  exact hop_value rfl rfl rfl (v := .bool true) (W' := W2) (by go_simp) (Grows.refl _) rfl
                | 14, _ =>
                  have h13 : us 13 = .bool true := hd 13 (by omega) (by kernel_rfl)
                  clear hd
                  rw [h13]
                  exact hop_off rfl rfl rfl rfl
                | 15, _ =>
                  have h13 : us 13 = .bool true := hd 13 (by omega) (by kernel_rfl)
                  clear hd
                  rw [h13]
                  exact hop_off rfl rfl rfl rfl
                | 16, _ =>
                  have h13 : us 13 = .bool true := hd 13 (by omega) (by kernel_rfl)
                  clear hd
                  rw [h13]
                  exact hop_off rfl rfl rfl rfl
                | 17, _ =>
                  have h10 : us 10 = .bool true := hd 10 (by omega) (by kernel_rfl)
                  have h13 : us 13 = .bool true := hd 13 (by omega) (by kernel_rfl)
                  have h16 : us 16 = undef := hd 16 (by omega) (by kernel_rfl)
                  clear hd
                  rw [h10]
                  exact hop_value rfl rfl rfl (v := .bool true) (W' := W2) (by go_simp) (Grows.refl _) rfl
                | 18, _ =>
                  have h10 : us 10 = .bool true := hd 10 (by omega) (by kernel_rfl)
                  have h17 : us 17 = .bool true := hd 17 (by omega) (by kernel_rfl)
                  clear hd
                  exact hop_value rfl rfl rfl (v := .bool true) (W' := W2) (by go_simp) (Grows.refl _) rfl
                | d + 19, h => exact absurd h (by omega)
              case htailG =>
                intro us W2 hG hf
                have hz : us 18 = .bool true := hf 18 (by omega)
                clear hf
                rw [hz]
                have HG2 := Lib.hid hG
                clear hz hG
                simp only [List.drop_succ_cons, List.drop_zero]
                repeat (go_big_quiet_step (fail))
                refine wpQuiet_nil ?_
                rintro w' ⟨nq, rfl⟩
                have HBX := Lib.hid (below_drewN HG2.out nq)
                clear HG2
                generalize W2.drewN nq = wy at *
                go_wp2
                go_ret
                exact ⟨rfl, thn HB5.out HBX.out⟩

set_option maxRecDepth 100000 in
theorem lifted (os : Os) (started : os.Started) (H : Type) (enc : TypeId × Value → H) :
    ReturnsInHanded {} Try.checked os 6 .any (Rows.checkBoundSpec.pre6 enc Try.prog Try.f6 Rows.checkBoundRow.domain false) (Rows.checkBoundSpec.post enc Try.prog Try.f6 false true false false) := by
  refine returnsInHanded_of_change (C := Try.checked) own started (by kernel_rfl) Try.func6
    (ChangeSpec.witness6 (enc := enc) (C := Try.checked) false ⟨#[], #[.int .i64 0, .slice none 0 0, .agg #[.int .u64 0, .int .u64 0]], []⟩ 8 (by kernel_rfl) (by kernel_rfl) (by kernel_rfl) (by kernel_rfl)) ?_
  intro W base args ds gs before hval0 hW hcnd _
  have hval : ∀ (j : Nat) t v, Try.f6.params[j]? = some t → args[j]? = some v → Value.okWide Try.prog W .any base t v := hval0
  have hW' := hW
  obtain ⟨p, q, hA0, hV, rfl, hfz, hnd⟩ := hW
  have hA : DataW.TrodAll enc Try.prog W 0 (fun _ => true) true Try.f6.params.toList args.toList ds p := hA0
  rw [Try.params6] at hA hval
  obtain ⟨v0, vs0, d0, ds0, p0, q0, hargs, rfl, rfl, h0, r0⟩ := trodAll_cons hA
  obtain ⟨v1, vs1, d1, ds1, p1, q1, rfl, rfl, rfl, h1, r1⟩ := trodAll_cons r0
  obtain ⟨v2, vs2, d2, ds2, p2, q2, rfl, rfl, rfl, h2, r2⟩ := trodAll_cons r1
  obtain ⟨rfl, rfl, rfl⟩ := trodAll_nil r2
  obtain rfl : args = #[v0, v1, v2] := by cases args; simp_all
  obtain ⟨rfl, rfl⟩ := trodVars_none hV
  obtain ⟨a0, rfl, rfl, rfl, w0⟩ := open_int Try.underlying3 (hval 0 3 v0 rfl rfl) h0
  obtain ⟨a1, len1, cap1, rfl⟩ := okWide_slice Try.underlying38 (hval 1 38 v1 rfl rfl)
  have k1 := h1
  have lt1 : ∀ x ∈ p1, x.block < W.heap.size := by obtain ⟨m, hm⟩ := k1; exact DataW.trod_lt m _ _ _ hm
  obtain ⟨z1, w1⟩ := Op.open_flats (f := 9) (ks := [.u64, .u64]) Try.underlying38 (by kernel_rfl) (by kernel_rfl) (by decide) h1
  have k2 := h2
  have lt2 : ∀ x ∈ p2, x.block < W.heap.size := by obtain ⟨m, hm⟩ := k2; exact DataW.trod_lt m _ _ _ hm
  obtain ⟨c2, rfl, fit2⟩ := Op.open_flat (f := 9) (ks := [.u64, .u64]) (by kernel_rfl) (by kernel_rfl) (hval 2 39 v2 rfl rfl) h2
  obtain ⟨a2_0, a2_1, rfl, w2_0, w2_1⟩ := fit2_of fit2
  clear hA0 hval0
  refine (walk a0 a1 len1 cap1 z1 a2_0 a2_1 W w0 w1 w2_0 w2_1).mono fun e W' ⟨he, bel⟩ => ?_
  subst he
  exact ⟨_, rfl, _, _, _, [], _, [], hW', trodAll_mk1 (shut_bool Try.underlying4 _), (trodAll_cons_mk (shut_int Try.underlying3 w0) (trodAll_cons_mk (Below.trod laidOut (by kernel_rfl) (of_decide_eq_true (by kernel_rfl)) k1 bel lt1) (trodAll_cons_mk (Below.trod laidOut (by kernel_rfl) (of_decide_eq_true (by kernel_rfl)) k2 bel lt2) trodAll_mk0))), rfl, bel.frame _, fun h => by cases h⟩

theorem over : Rows.checkBoundRow.holds Try.pinned (OpenSpec.ofChange Rows.checkBoundSpec) :=
  OpenClaim.holds_of_wide 6 Try.f6 rfl rfl rfl rfl rfl rfl rfl ⟨rfl, rfl, rfl, rfl, rfl⟩ rfl rfl rfl rfl rfl (by kernel_rfl) Try.func6 (by kernel_rfl)
    (of_decide_eq_true (by kernel_rfl)) (by unfold Func.isWrapper; first | (rw [if_pos (by decide +kernel)]; kernel_rfl) | (rw [if_neg (by decide +kernel)]; exact ⟨rfl, rfl⟩))
    (fun os started H enc _ => lifted os started H enc)

/-- The statement. -/
theorem proved : Rows.CheckBoundSaid := over
#print axioms proved
end Go.Proofs.Ytoplbjanemjebaa.checkBound
