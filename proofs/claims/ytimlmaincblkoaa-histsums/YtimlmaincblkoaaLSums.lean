/-
  'skylight/skylightlaw06.HistSums' returns true for every input, and the input reads afterwards as it read before. Conditions: none.
-/
import Derived.Test.YtimlmaincblkoaaRows
import Derived.WalkKit
import Derived.ProofKit
import Derived.OpenShut
import Derived.ShutString
import Derived.ChangeOld
import Derived.Below
import Derived.Test.YtimlmaincblkoaaOpen
import Derived.Test.YtimlmaincblkoaaHPlayed
import Derived.Test.YtimlmaincblkoaaHAwk
namespace Go.Proofs.Ytimlmaincblkoaa.histSums
open Go.Proofs Go.Proofs.Rn Go.Proofs.Lm Go.Proofs.Op Go.Proofs.Rw Go.Proofs.Lh Go.Proofs.Rf
open Go.ChangeShapes Go.WideShapes Go.ChangeAt Go.RowKit
open Go.ChangeMaps (open_string shut_string)
set_option linter.unusedVariables false

theorem own : ownKnob Try.prog.godebug = none := by kernel_rfl
theorem laidOut : laidOutB Try.prog = true := by kernel_rfl

/-- A slice of integers that came in: nil, or a row of cells of its capacity, each fitting its kind. -/
def IsRow (k : IntKind) (w : World) (a : Option Addr) (len cap : Nat) (zs : List Int) : Prop :=
  (a = none ∧ len = 0 ∧ cap = 0 ∧ zs = []) ∨
  ∃ x, a = some x ∧ len ≤ cap ∧ cap ≤ maxLen ∧ zs.length = cap ∧ (∀ i, i < zs.length → w.cell? (x.add i) = some (.int k (zs.getD i 0))) ∧ ∀ n ∈ zs, (Lit.int k n).wf = true

open Go.RowKit Go.Shelf Go.Proofs.Rw Go.Proofs.Lh Go.Proofs.Rf

set_option maxRecDepth 100000 in
set_option maxHeartbeats 4000000 in
theorem walk (a0 : Int) (a1 : Option Addr) (len1 cap1 : Nat) (z1 : Nat → Nat → Int) (w : World) (w0 : (Lit.int .i64 a0).wf = true) (w1 : Op.FlatRow [.u64, .u64] w a1 len1 cap1 z1) :
    Calls Try.prog 6 #[.int .i64 a0, .slice a1 len1 cap1] w fun e w' => e = .returned (.bool true) ∧ Below w.heap.size w w' := by
  obtain ⟨ds, hdl1, hdL1, hdB1⟩ := sp_of_row w1
  have hD1 : Deeds w a1 len1 cap1 ds := ⟨hdl1, hdL1, hdB1⟩
  obtain ⟨b00, b01⟩ := bounds_i64 w0
  have hkl := kOf_le a0
  have hke := kOf_eq a0
  obtain ⟨kk, hkk⟩ : ∃ x, kOf a0 = x := ⟨_, rfl⟩
  rw [hkk] at hkl hke
  have HKE := Lib.hid hke
  have HDE := Lib.hid hD1
  obtain ⟨nd, hnd⟩ : ∃ n, len1 = n := ⟨_, rfl⟩
  obtain ⟨cd, hcd⟩ : ∃ n, cap1 = n := ⟨_, rfl⟩
  subst hnd hcd
  obtain ⟨nd, hnd⟩ : ∃ n, n = len1 := ⟨_, rfl⟩
  obtain ⟨cd, hcd⟩ : ∃ n, n = cap1 := ⟨_, rfl⟩
  rw [← hnd, ← hcd] at HDE
  rw [← hnd, ← hcd]
  clear hke hkk hD1 hdl1 hdL1 hdB1 w0 w1 hnd hcd
  have hnew := fun W => new_may (kk : Int) (may_of hkl.1 (by omega)) W
  have HNEW := Lib.hid hnew
  clear hnew
  go_enter Try.func6, Try.ntmps6
  go_upto_region 2 with (go_at_call 9; refine (awake_any _).mono ?_; rintro e wa ⟨rfl, ha⟩; have HWA := Lib.hid ha; clear ha)
  go_cut [6, 7] from 13 to 20 (fun s6 s7 wx => s7 = .int .i64 0 ∧ ∃ w1 : World, Below wa.heap.size wa w1 ∧ s6 = .pointer (some ⟨w1.heap.size, 0, none⟩) ∧ wx = w1.alloc (.cells #[.int .i64 (kk : Int), .int .i64 0, .slice none 0 0] 26))
  case first =>
    by_cases h : 0 ≤ a0
    · have e : (2 + a0 % 30 : Int) = (kk : Int) := by have := HKE.out; rw [this, Int.max_eq_left h]
      have HE := Lib.hid e
      clear e
      go_wp2_with (go_at_call 18; rw [HE.out]; (with_reducible refine (HNEW.out _).mono ?_); rintro e w1 ⟨rfl, hb1⟩)
      go_meet
      case rel => exact ⟨rfl, w1, hb1, rfl, rfl⟩
    · have e : (2 : Int) = (kk : Int) := by have := HKE.out; rw [this]; omega
      have hn2 := HNEW.out
      rw [← e] at hn2
      have HN2 := Lib.hid hn2
      have HE := Lib.hid e
      clear e hn2
      go_wp2_with (go_at_call 18; (with_reducible refine (HN2.out _).mono ?_); rintro e w1 ⟨rfl, hb1⟩)
      go_meet
      case rel => exact ⟨rfl, w1, hb1, rfl, by rw [HE.out]⟩
  case rest =>
    obtain ⟨rfl, w1, hb1, rfl, rfl⟩ := hcut
    obtain ⟨bA, hbA⟩ : ∃ b, w1.heap.size = b := ⟨_, rfl⟩
    obtain ⟨wL, hwL⟩ : ∃ W, w1.alloc (.cells #[.int .i64 (kk : Int), .int .i64 0, .slice none 0 0] 26) = W := ⟨_, rfl⟩
    have y0 : wL.heap[bA]? = some (.cells #[.int .i64 (kk : Int), .int .i64 0, .slice none 0 0] 26) := by rw [← hwL, ← hbA]; exact heap_alloc_new w1 _
    have y1 : Below bA w1 wL := by rw [← hwL, ← hbA]; exact (Below.refl _ w1).alloc (Nat.le_refl _) _
    rw [hwL, hbA]
    have Y0 := Lib.hid y0
    have Y1 := Lib.hid y1
    have HBW1 := Lib.hid (thn HWA.out hb1)
    have hz1 : w.heap.size ≤ bA := by have := HWA.out.size; have := hb1.size; omega
    clear hwL hbA y0 y1 hb1 HWA HNEW HKE
    go_wp2
    go_loopw [8, 9] (fun s8 s9 wr => ∃ (j : Nat) (A : Option Addr) (c : Nat) (ls : Lv) (sm : Nat), s9 = .int .i64 (j : Int) ∧ s8 = .int .u64 (sm : Int) ∧ j ≤ 30 ∧ j ≤ nd ∧ wr.heap[bA]? = some (.cells #[.int .i64 (kk : Int), .int .i64 0, .slice A ls.length c] 26) ∧ Levs wr wr.heap.size (.slice A ls.length c) ls ∧ Made kk ls ∧ tot ls = sm ∧ Below bA w1 wr) (fun _ s9 _ => 30 - (intOf s9).toNat)
    case atStart => exact ⟨0, none, 0, [], 0, rfl, rfl, by omega, Nat.zero_le _, Y0.out, Levs.nil, Made.nil hkl.1 (by omega), rfl, Y1.out⟩
    case round =>
      obtain ⟨j, A, c, ls, sm, rfl, rfl, hj30, hjn, hbx, hL, hmd, hsm, hbel⟩ := hrel
      have hbw : Below w.heap.size w wr := HBW1.out.trans (hbel.mono hz1)
      have hdl := HDE.out.1
      obtain ⟨N, hN⟩ : ∃ n, ls.length = n := ⟨_, rfl⟩
      rw [hN] at hbx hL
      obtain ⟨x0, x1, x2⟩ := box3 hbx
      have hlx := lt_of hbx
      by_cases hlt : j < nd ∧ j < 30
      · have hdeed := (HDE.out.grow hbw)
        have hdw := HDE.out.2.1
        obtain ⟨bd, od, rfl, hbd, -, hcd⟩ := sp_at hdeed.2.1 (by omega)
        obtain ⟨bd', od', hA', hbd', -, -⟩ := sp_at hdw (by omega)
        have hne : bd ≠ bA := by
          injection hA' with hA'
          injection hA' with hA' _ _
          omega
        obtain ⟨-, d1⟩ := hcd j (by omega)
        have hin := hdeed.2.2 (ds[j]'(by omega)) (List.getElem_mem _)
        obtain ⟨x, hx⟩ : ∃ x, ds[j]'(by omega) = x := ⟨_, rfl⟩
        rw [hx] at d1 hin
        obtain ⟨wt, hwt⟩ : ∃ g, x.2 = g := ⟨_, rfl⟩
        rw [hwt] at d1 hin
        obtain ⟨C, hC⟩ : ∃ C : Int, ((code ls 7 wt : Nat) : Int) = C := ⟨_, rfl⟩
        obtain ⟨KO, hKO⟩ : ∃ K, outK kk ls 7 wt = K := ⟨_, rfl⟩
        obtain ⟨R, hRR⟩ : ∃ R, outL kk ls 7 wt = R := ⟨_, rfl⟩
        have hok : C = 0 → KO = (kk : Int) ∧ True ∧ Made kk R ∧ tot R = sm + wt := fun e => by
          have hc : code ls 7 wt = 0 := by omega
          rw [← hKO, ← hRR]
          unfold outK outL
          rw [if_pos hc, if_pos hc]
          exact ⟨rfl, trivial, hmd.add hc, by rw [addW_tot, hsm]⟩
        have hadd : ∀ W, Below wr.heap.size wr W → Calls Try.prog 16 #[.agg #[.int .i64 (kk : Int), .int .i64 0, .slice A N c], .int .u64 (7 : Int), .int .u64 (wt : Int)] W fun e w' => ∃ A' c', e = .returned (.tuple #[.agg #[.int .i64 KO, .int .i64 0, .slice A' R.length c'], .int .i64 C]) ∧ Levs w' w'.heap.size (.slice A' R.length c') R ∧ Below W.heap.size W w' := by
          intro W hW
          have := add_any kk ls hmd 7 wt (by omega) W A c (by rw [hN]; exact hL.grow hW)
          rw [hC, hKO, hRR, hN] at this
          exact this
        have HOK := Lib.hid hok
        have HADD := Lib.hid hadd
        have HLV := Lib.hid hL
        have HBX := Lib.hid hbx
        have HBEL := Lib.hid hbel
        have HN := Lib.hid hN
        have HMD := Lib.hid hmd
        have HSM := Lib.hid hsm
        have HNE := Lib.hid hne
        have H0 := Lib.hid x0
        have H1 := Lib.hid x1
        have H2 := Lib.hid x2
        have HLH := Lib.hid hlx
        have HLD := Lib.hid hbd
        have HD1 := Lib.hid d1
        have hjn : j + 1 ≤ nd := by omega
        have hj30 : j + 1 ≤ 30 := by omega
        have hjI : (j : Int) < (nd : Int) := by omega
        have g1 : decide (j < nd) = true := by simp; omega
        have g2 : decide ((j : Int) < 30) = true := by simp; omega
        clear hok hadd hL hbx hbel hbw hN x0 x1 x2 d1 hcd hdeed hC hKO hRR hx hwt hin hmd hdl hsm hne hdw hbd' hA'
        go_upto_region 7 with (fail)
        clear g1 g2
        refine region_all (fr := ?frA) (fun i us W => match i with
            | 0 => us 0 = .agg #[.int .i64 (kk : Int), .int .i64 0, .slice A N c]
            | 1 => us 1 = .slice (some ⟨bd, od, none⟩) nd cd
            | 2 => us 2 = .int .i64 (j : Int)
            | 3 => us 3 = .pointer (some ⟨bd, od + j * 2, none⟩)
            | 4 => us 4 = .pointer (some ⟨bd, od + j * 2 + 1, none⟩)
            | 5 => us 5 = .int .u64 (wt : Int)
            | 6 => Tp KO C R (us 6) W
            | 7 => Tp KO C R (us 7) W
            | 8 => Hp KO R (us 8) W
            | 9 => us 9 = .int .i64 C
            | 10 => Nw3 26 wr.heap.size (us 10) W
            | 11 => Yb3 26 wr.heap.size KO R (us 10) W
            | 12 => us 12 = .int .i64 C
            | _ => True) (fun j W W' => Ea 26 wr.heap.size 11 j W W') (fun W => Below wr.heap.size wr W) rfl ?hBA ?hfrA ?hlocA ?hstA ?hG0A ?hGA ?hopA ?hendA
        case hBA => kernel_rfl
        case hfrA =>
          intro us
          simp only [List.length_cons, List.length_nil, Nat.zero_add, Nat.reduceAdd, putO, dstO]
          go_simp
          rfl
        case hlocA =>
          intro i us us' W h hf
          match i with
          | 0 =>
            have e0 := h 0 (.inl rfl)
            try dsimp only at hf ⊢
            rw [e0] at hf
            exact hf
          | 1 =>
            have e1 := h 1 (.inl rfl)
            try dsimp only at hf ⊢
            rw [e1] at hf
            exact hf
          | 2 =>
            have e2 := h 2 (.inl rfl)
            try dsimp only at hf ⊢
            rw [e2] at hf
            exact hf
          | 3 =>
            have e3 := h 3 (.inl rfl)
            try dsimp only at hf ⊢
            rw [e3] at hf
            exact hf
          | 4 =>
            have e4 := h 4 (.inl rfl)
            try dsimp only at hf ⊢
            rw [e4] at hf
            exact hf
          | 5 =>
            have e5 := h 5 (.inl rfl)
            try dsimp only at hf ⊢
            rw [e5] at hf
            exact hf
          | 6 =>
            have e6 := h 6 (.inl rfl)
            try dsimp only at hf ⊢
            rw [e6] at hf
            exact hf
          | 7 =>
            have e7 := h 7 (.inl rfl)
            try dsimp only at hf ⊢
            rw [e7] at hf
            exact hf
          | 8 =>
            have e8 := h 8 (.inl rfl)
            try dsimp only at hf ⊢
            rw [e8] at hf
            exact hf
          | 9 =>
            have e9 := h 9 (.inl rfl)
            try dsimp only at hf ⊢
            rw [e9] at hf
            exact hf
          | 10 =>
            have e10 := h 10 (.inl rfl)
            try dsimp only at hf ⊢
            rw [e10] at hf
            exact hf
          | 11 =>
            have e10 := h 10 (.inr (by kernel_rfl))
            try dsimp only at hf ⊢
            rw [e10] at hf
            exact hf
          | 12 =>
            have e12 := h 12 (.inl rfl)
            try dsimp only at hf ⊢
            rw [e12] at hf
            exact hf
          | n + 13 => trivial
        case hstA =>
          intro i j us W W' hne hw hi hj hE hf
          match i with
          | 0 => exact hf
          | 1 => exact hf
          | 2 => exact hf
          | 3 => exact hf
          | 4 => exact hf
          | 5 => exact hf
          | 6 =>
            exact Tp.ea (by decide) (by decide) hE hf
          | 7 =>
            exact Tp.ea (by decide) (by decide) hE hf
          | 8 =>
            exact Hp.ea (by decide) (by decide) hE hf
          | 9 => exact hf
          | 10 =>
            exact Nw3.ea hE hf
          | 11 =>
            exact Yb3.ea hE (Ne.symm hne) hf
          | 12 => exact hf
          | n + 13 => trivial
        case hG0A =>
          exact (Below.refl _ wr).drew
        case hGA =>
          intro j W W' hE hg
          exact Ea.below hE hg hg.size
        case hopA =>
          intro i hi us W hg hd hq
          match i, hi with
          | 0, _ =>
            clear hd hq
            have qa := (hg.cell (p := ⟨bA, 0, none⟩) HLH.out).trans H0.out
            have qb := (hg.cell (p := ⟨bA, 1, none⟩) HLH.out).trans H1.out
            have qc := (hg.cell (p := ⟨bA, 2, none⟩) HLH.out).trans H2.out
            refine all_value rfl rfl (.agg #[.int .i64 (kk : Int), .int .i64 0, .slice A N c]) W (by go_simp) ?_ ?_
            · exact .inl (Grows.refl _)
            · rfl
          | 1, _ =>
            clear hd hq
            refine all_value rfl rfl (.slice (some ⟨bd, od, none⟩) nd cd) W (by go_simp) ?_ ?_
            · exact .inl (Grows.refl _)
            · rfl
          | 2, _ =>
            clear hd hq
            refine all_value rfl rfl (.int .i64 (j : Int)) W (by go_simp) ?_ ?_
            · exact .inl (Grows.refl _)
            · rfl
          | 3, _ =>
            have h1 : us 1 = .slice (some ⟨bd, od, none⟩) nd cd := hd 1 (by kernel_rfl)
            have h2 : us 2 = .int .i64 (j : Int) := hd 2 (by kernel_rfl)
            clear hd hq
            refine all_value rfl rfl (.pointer (some ⟨bd, od + j * 2, none⟩)) W (by go_simp) ?_ ?_
            · exact .inl (Grows.refl _)
            · rfl
          | 4, _ =>
            have h3 : us 3 = .pointer (some ⟨bd, od + j * 2, none⟩) := hd 3 (by kernel_rfl)
            clear hd hq
            refine all_value rfl rfl (.pointer (some ⟨bd, od + j * 2 + 1, none⟩)) W (by go_simp) ?_ ?_
            · exact .inl (Grows.refl _)
            · rfl
          | 5, _ =>
            have h4 : us 4 = .pointer (some ⟨bd, od + j * 2 + 1, none⟩) := hd 4 (by kernel_rfl)
            clear hd hq
            have qa := (hg.cell (p := ⟨bd, od + j * 2 + 1, none⟩) HLD.out).trans HD1.out
            refine all_value rfl rfl (.int .u64 (wt : Int)) W (by go_simp) ?_ ?_
            · exact .inl (Grows.refl _)
            · rfl
          | 6, _ =>
            have h0 : us 0 = .agg #[.int .i64 (kk : Int), .int .i64 0, .slice A N c] := hd 0 (by kernel_rfl)
            have h5 : us 5 = .int .u64 (wt : Int) := hd 5 (by kernel_rfl)
            clear hd hq
            refine all_call rfl rfl 16 #[.agg #[.int .i64 (kk : Int), .int .i64 0, .slice A N c], .int .u64 (7 : Int), .int .u64 (wt : Int)] (by go_simp) ?_
            exact (HADD.out W hg).mono fun _ W' ⟨A', c', he, hL, hb⟩ => ⟨_, he, .inl hb, ⟨A', c', rfl, hL⟩⟩
          | 7, _ =>
            have h6 : Tp KO C R (us 6) W := hd 6 (by kernel_rfl)
            clear hd hq
            refine all_value rfl rfl (us 6) W (by go_simp) ?_ ?_
            · exact .inl (Grows.refl _)
            · exact h6
          | 8, _ =>
            have h7 : Tp KO C R (us 7) W := hd 7 (by kernel_rfl)
            clear hd hq
            obtain ⟨A', c', e8, hL⟩ := h7
            refine all_value rfl rfl (.agg #[.int .i64 KO, .int .i64 0, .slice A' R.length c']) W (by go_simp) ?_ ?_
            · exact .inl (Grows.refl _)
            · exact ⟨A', c', rfl, hL⟩
          | 9, _ =>
            have h7 : Tp KO C R (us 7) W := hd 7 (by kernel_rfl)
            clear hd hq
            obtain ⟨A', c', e8, hL⟩ := h7
            refine all_value rfl rfl (.int .i64 C) W (by go_simp) ?_ ?_
            · exact .inl (Grows.refl _)
            · rfl
          | 10, _ =>
            clear hd hq
            refine all_value rfl rfl (.pointer (some ⟨W.heap.size, 0, none⟩)) (W.alloc (.cells #[.int .i64 0, .int .i64 0, .slice none 0 0] 26)) (by go_simp) ?_ ?_
            · exact .inl (Grows.alloc _ _)
            · exact ⟨W.heap.size, _, _, _, rfl, hg.size, World.alloc_heap_new _ _⟩
          | 11, _ =>
            have h10 : Nw3 26 wr.heap.size (us 10) W := hd 10 (by kernel_rfl)
            have h8 : Hp KO R (us 8) W := hd 8 (by kernel_rfl)
            clear hd hq
            obtain ⟨A', c', e9, hL⟩ := h8
            obtain ⟨p, x0, x1, x2, e11, hp, hblk⟩ := h10
            obtain ⟨q0, q1, q2⟩ := box3 hblk
            have f0 : ∀ i, W.frozen? ⟨p, i, none⟩ = false := fun i => by simp [World.frozen?, hblk]
            have HBK := Lib.hid hblk
            have hlp := lt_of hblk
            clear hblk
            refine all_skip rfl rfl (((W.setCell ⟨p, 0, none⟩ (.int .i64 KO)).setCell ⟨p, 1, none⟩ (.int .i64 0)).setCell ⟨p, 2, none⟩ (.slice A' R.length c')) (by go_simp) ?_ ?_
            · exact .inr ⟨rfl, st3_set hp HBK.out _ _ _⟩
            · exact ⟨p, A', c', e11, hp, set3 HBK.out _ _ _, levs_set3 (by decide) (by decide) HBK.out _ _ _ hL⟩
          | 12, _ =>
            have h9 : us 9 = .int .i64 C := hd 9 (by kernel_rfl)
            clear hd hq
            refine all_value rfl rfl (.int .i64 C) W (by go_simp) ?_ ?_
            · exact .inl (Grows.refl _)
            · rfl
          | n + 13, h => exact absurd h (by simp)
        case hendA =>
          intro us W hg hf
          have h11 : Yb3 26 wr.heap.size KO R (us 10) W := hf 11 (by simp)
          have h12 : us 12 = .int .i64 C := hf 12 (by simp)
          clear hf
          obtain ⟨p, Ap, cp, e11, hp, hblk, hLp⟩ := h11
          rw [h12, e11]
          have hbA := (hg.block bA HLH.out).trans HBX.out
          obtain ⟨y0, y1, y2⟩ := box3 hbA
          obtain ⟨z0, z1, z2⟩ := box3 hblk
          have fA : ∀ i, W.frozen? ⟨bA, i, none⟩ = false := fun i => by simp [World.frozen?, hbA]
          have lA := lt_of hbA
          have lp := lt_of hblk
          have hpA : p ≠ bA := by have := HLH.out; omega
          have dcell := (hg.cell (p := ⟨bd, od + j * 2 + 1, none⟩) HLD.out).trans HD1.out
          have ldd := Nat.lt_of_lt_of_le HLD.out hg.size
          have HBA := Lib.hid hbA
          have HLP := Lib.hid hLp
          have HGW := Lib.hid (HBEL.out.trans (hg.mono (by have := HLH.out; omega)))
          have HLW := Lib.hid (HLV.out.grow hg)
          clear hbA hblk hLp hg e11 h12
          by_cases hc : C = 0
          · have hR := HOK.out hc
            have HR1 := Lib.hid hR
            have bs : (sm : Int) + (wt : Int) ≤ 18446744073709551615 := by have := hR.2.2.1.small; have := hR.2.2.2; omega
            have hbne : bd ≠ bA := HNE.out
            subst hc
            clear hR
            go_wp2
            refine ⟨⟨j + 1, Ap, cp, R, sm + wt, by go_num, by first | rfl | omega | simp, hj30, hjn, ?_, ?_, HR1.out.2.2.1, HR1.out.2.2.2, below3 HGW.out (Nat.le_refl _) _ _ _⟩, by simp [intOf]; omega⟩
            · rw [← HR1.out.1]
              exact set3 HBA.out _ _ _
            · exact levs_set3 (by decide) (by decide) HBA.out _ _ _ HLP.out
          · have d : (C == 0) = false := by simpa using hc
            clear hc
            go_wp2
            refine ⟨⟨j + 1, A, c, ls, sm, by go_num, rfl, hj30, hjn, ?_, ?_, HMD.out, HSM.out, HGW.out⟩, by simp [intOf]; omega⟩
            · rw [HN.out]
              exact HBA.out
            · rw [HN.out]
              exact HLW.out
      · have ht := fun (W : World) (hW : Below wr.heap.size wr W) => total_any (kk : Int) 0 ls (by have := hmd.len; omega) (by have := hmd.small; omega) W A c (by rw [hN]; exact hL.grow hW)
        simp only [hsm, hN] at ht
        have hsmall : sm ≤ 4503599627370496 := by have := hmd.small; omega
        have HT := Lib.hid ht
        have HBW := Lib.hid hbw
        clear ht hmd hsm hN hL hbx hbel hbw hdl
        have dle : decide ((sm : Int) ≤ 4503599627370496) = true := by simp; omega
        have c01 : decide (j < nd) = false ∨ (decide (j < nd) = true ∧ decide ((j : Int) < 30) = false) := by
          by_cases h1 : j < nd
          · exact .inr ⟨by simpa using h1, by simp; omega⟩
          · exact .inl (by simpa using h1)
        clear hlt
        rcases c01 with g1 | ⟨g1, g2⟩
        all_goals
          go_wp2_with (go_at_call 14; refine (HT.out _ (Below.refl _ _)).mono ?_; rintro e w5 ⟨rfl, hb5⟩; have HB5 := Lib.hid (thn HBW.out hb5); clear hb5)
          go_ret
          exact ⟨by first | rfl | exact ret_b (by simp; omega), HB5.out⟩

set_option maxRecDepth 100000 in
theorem lifted (os : Os) (started : os.Started) (H : Type) (enc : TypeId × Value → H) :
    ReturnsInHanded {} Try.checked os 6 .any (Rows.histSumsSpec.pre6 enc Try.prog Try.f6 Rows.histSumsRow.domain false) (Rows.histSumsSpec.post enc Try.prog Try.f6 false true false false) := by
  refine returnsInHanded_of_change (C := Try.checked) own started (by kernel_rfl) Try.func6
    (ChangeSpec.witness6 (enc := enc) (C := Try.checked) false ⟨#[], #[.int .i64 0, .slice none 0 0], []⟩ 8 (by kernel_rfl) (by kernel_rfl) (by kernel_rfl) (by kernel_rfl)) ?_
  intro W base args ds gs before hval0 hW hcnd _
  have hval : ∀ (j : Nat) t v, Try.f6.params[j]? = some t → args[j]? = some v → Value.okWide Try.prog W .any base t v := hval0
  have hW' := hW
  obtain ⟨p, q, hA0, hV, rfl, hfz, hnd⟩ := hW
  have hA : DataW.TrodAll enc Try.prog W 0 (fun _ => true) true Try.f6.params.toList args.toList ds p := hA0
  rw [Try.params6] at hA hval
  obtain ⟨v0, vs0, d0, ds0, p0, q0, hargs, rfl, rfl, h0, r0⟩ := trodAll_cons hA
  obtain ⟨v1, vs1, d1, ds1, p1, q1, rfl, rfl, rfl, h1, r1⟩ := trodAll_cons r0
  obtain ⟨rfl, rfl, rfl⟩ := trodAll_nil r1
  obtain rfl : args = #[v0, v1] := by cases args; simp_all
  obtain ⟨rfl, rfl⟩ := trodVars_none hV
  obtain ⟨a0, rfl, rfl, rfl, w0⟩ := open_int Try.underlying3 (hval 0 3 v0 rfl rfl) h0
  obtain ⟨a1, len1, cap1, rfl⟩ := okWide_slice Try.underlying22 (hval 1 22 v1 rfl rfl)
  have k1 := h1
  have lt1 : ∀ x ∈ p1, x.block < W.heap.size := by obtain ⟨m, hm⟩ := k1; exact DataW.trod_lt m _ _ _ hm
  obtain ⟨z1, w1⟩ := Op.open_flats (f := 9) (ks := [.u64, .u64]) Try.underlying22 (by kernel_rfl) (by kernel_rfl) (by decide) h1
  clear hA0 hval0
  refine (walk a0 a1 len1 cap1 z1 W w0 w1).mono fun e W' ⟨he, bel⟩ => ?_
  subst he
  exact ⟨_, rfl, _, _, _, [], _, [], hW', trodAll_mk1 (shut_bool Try.underlying4 _), (trodAll_cons_mk (shut_int Try.underlying3 w0) (trodAll_cons_mk (Below.trod laidOut (by kernel_rfl) (of_decide_eq_true (by kernel_rfl)) k1 bel lt1) trodAll_mk0)), rfl, bel.frame _, fun h => by cases h⟩

theorem over : Rows.histSumsRow.holds Try.pinned (OpenSpec.ofChange Rows.histSumsSpec) :=
  OpenClaim.holds_of_wide 6 Try.f6 rfl rfl rfl rfl rfl rfl rfl ⟨rfl, rfl, rfl, rfl, rfl⟩ rfl rfl rfl rfl rfl (by kernel_rfl) Try.func6 (by kernel_rfl)
    (of_decide_eq_true (by kernel_rfl)) (by unfold Func.isWrapper; first | (rw [if_pos (by decide +kernel)]; kernel_rfl) | (rw [if_neg (by decide +kernel)]; exact ⟨rfl, rfl⟩))
    (fun os started H enc _ => lifted os started H enc)

/-- The statement. -/
theorem proved : Rows.HistSumsSaid := over
#print axioms proved
end Go.Proofs.Ytimlmaincblkoaa.histSums
