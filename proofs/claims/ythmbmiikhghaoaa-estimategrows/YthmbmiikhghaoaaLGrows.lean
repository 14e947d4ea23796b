/-
  'skylight/skylightlaw08.EstimateGrows' returns true for every input, and the input reads afterwards as it read before. Conditions: none.
-/
import Derived.Test.YthmbmiikhghaoaaRows
import Derived.WalkKit
import Derived.ProofKit
import Derived.OpenShut
import Derived.ShutString
import Derived.ChangeOld
import Derived.Below
import Derived.Test.YthmbmiikhghaoaaOpen
import Derived.Test.YthmbmiikhghaoaaEsAwk
namespace Go.Proofs.Ythmbmiikhghaoaa.estimateGrows
open Go.Proofs Go.Proofs.Rn Go.Proofs.Lm Go.Proofs.Op Go.Proofs.Rw Go.Proofs.Lh Go.Proofs.Rf
open Go.ChangeShapes Go.WideShapes Go.ChangeAt Go.RowKit
open Go.ChangeMaps (open_string shut_string)
set_option linter.unusedVariables false

theorem own : ownKnob Try.prog.godebug = none := by kernel_rfl
theorem laidOut : laidOutB Try.prog = true := by kernel_rfl

/-- A slice of integers that came in: nil, or a row of cells of its capacity, each fitting its kind. -/
def IsRow (k : IntKind) (w : World) (a : Option Addr) (len cap : Nat) (zs : List Int) : Prop :=
  (a = none ∧ len = 0 ∧ cap = 0 ∧ zs = []) ∨
  ∃ x, a = some x ∧ len ≤ cap ∧ cap ≤ maxLen ∧ zs.length = cap ∧ (∀ i, i < zs.length → w.cell? (x.add i) = some (.int k (zs.getD i 0))) ∧ ∀ n ∈ zs, (Lit.int k n).wf = true

theorem fit2_of {c : List Value} (h : Op.Fits [.u64, .u64, .u64, .u64] c) : ∃ x0 x1 x2 x3 : Int, c = [.int .u64 x0, .int .u64 x1, .int .u64 x2, .int .u64 x3] ∧ (Lit.int .u64 x0).wf = true ∧ (Lit.int .u64 x1).wf = true ∧ (Lit.int .u64 x2).wf = true ∧ (Lit.int .u64 x3).wf = true := by
  cases c with
  | nil => exact h.elim
  | cons y0 c =>
  have g0 := h.1
  replace h := h.2
  cases c with
  | nil => exact h.elim
  | cons y1 c =>
  have g1 := h.1
  replace h := h.2
  cases c with
  | nil => exact h.elim
  | cons y2 c =>
  have g2 := h.1
  replace h := h.2
  cases c with
  | nil => exact h.elim
  | cons y3 c =>
  have g3 := h.1
  replace h := h.2
  cases c with
  | cons y c => exact h.elim
  | nil =>
  obtain ⟨x0, e0, e0w⟩ := g0
  obtain ⟨x1, e1, e1w⟩ := g1
  obtain ⟨x2, e2, e2w⟩ := g2
  obtain ⟨x3, e3, e3w⟩ := g3
  exact ⟨x0, x1, x2, x3, by rw [e0, e1, e2, e3], e0w, e1w, e2w, e3w⟩

open Go.RowKit Go.Shelf Go.Proofs.Rw Go.Proofs.Lh Go.Proofs.Rf

set_option maxRecDepth 100000 in
set_option maxHeartbeats 4000000 in
theorem walk (a0 : Int) (a1 : Option Addr) (len1 cap1 : Nat) (z1 : Nat → Nat → Int) (a2_0 a2_1 a2_2 a2_3 : Int) (w : World) (w0 : (Lit.int .i64 a0).wf = true) (w1 : Op.FlatRow [.u64, .u64] w a1 len1 cap1 z1) (w2_0 : (Lit.int .u64 a2_0).wf = true) (w2_1 : (Lit.int .u64 a2_1).wf = true) (w2_2 : (Lit.int .u64 a2_2).wf = true) (w2_3 : (Lit.int .u64 a2_3).wf = true) :
    Calls Try.prog 7 #[.int .i64 a0, .slice a1 len1 cap1, .agg #[.int .u64 a2_0, .int .u64 a2_1, .int .u64 a2_2, .int .u64 a2_3]] w fun e w' => e = .returned (.bool true) ∧ Below w.heap.size w w' := by
  obtain ⟨ds, hdl1, hdL1, hdB1⟩ := sp_of_row w1
  have hD1 : Deeds w a1 len1 cap1 ds := ⟨hdl1, hdL1, hdB1⟩
  obtain ⟨b00, b01⟩ := bounds_i64 w0
  have hk1 := kOf_le a0
  have hdn1 : doneN ds ≤ ds.length := by unfold doneN; omega
  have hmd : Made (kOf a0) (play (kOf a0) ds (doneN ds)).2 := play_made hk1.1 (by omega) ds _ hdn1
  have hma := fun (W : World) (hW : Below w.heap.size w W) => rmade_any a0 b00 (by omega) ds W a1 len1 cap1 (hD1.grow hW)
  obtain ⟨c00, c01⟩ := bounds_u64 w2_0
  obtain ⟨n0, rfl⟩ : ∃ n : Nat, a2_0 = (n : Int) := ⟨a2_0.toNat, by omega⟩
  have hb0 : n0 < 18446744073709551616 := by omega
  clear c00 c01 w2_0
  obtain ⟨c10, c11⟩ := bounds_u64 w2_1
  obtain ⟨n1, rfl⟩ : ∃ n : Nat, a2_1 = (n : Int) := ⟨a2_1.toNat, by omega⟩
  have hb1 : n1 < 18446744073709551616 := by omega
  clear c10 c11 w2_1
  obtain ⟨c20, c21⟩ := bounds_u64 w2_2
  obtain ⟨n2, rfl⟩ : ∃ n : Nat, a2_2 = (n : Int) := ⟨a2_2.toNat, by omega⟩
  have hb2 : n2 < 18446744073709551616 := by omega
  clear c20 c21 w2_2
  obtain ⟨c30, c31⟩ := bounds_u64 w2_3
  obtain ⟨n3, rfl⟩ : ∃ n : Nat, a2_3 = (n : Int) := ⟨a2_3.toNat, by omega⟩
  have hb3 : n3 < 18446744073709551616 := by omega
  clear c30 c31 w2_3
  obtain ⟨kk, hkk⟩ : ∃ x, kOf a0 = x := ⟨_, rfl⟩
  rw [hkk] at hmd
  simp only [hkk] at hma
  obtain ⟨L, hL⟩ : ∃ x, (play kk ds (doneN ds)).2 = x := ⟨_, rfl⟩
  rw [hL] at hmd
  simp only [hL] at hma
  obtain ⟨N, hN⟩ : ∃ x, L.length = x := ⟨_, rfl⟩
  simp only [hN] at hma
  have hln : N ≤ 53 := by have := hmd.len; omega
  have HMA := Lib.hid hma
  have HN := Lib.hid hN
  have HMD := Lib.hid hmd
  clear hma hmd hN hD1 hdl1 hdL1 hdB1 hkk hL w1 hdn1 hk1 w0
  have hbx : (w.alloc (.cells #[.int .u64 (n0 : Int), .int .u64 (n1 : Int), .int .u64 (n2 : Int), .int .u64 (n3 : Int)] 39)).heap[w.heap.size]? = some (.cells #[.int .u64 (n0 : Int), .int .u64 (n1 : Int), .int .u64 (n2 : Int), .int .u64 (n3 : Int)] 39) := heap_alloc_new w _
  have HBX := Lib.hid hbx
  clear hbx
  go_enter Try.func7, Try.ntmps7
  go_upto_region 3 with (first
    | (go_at_call 8; refine (awake_any _).mono ?_; rintro e wa ⟨rfl, ha⟩; have t := (ha.block w.heap.size (by simp)).trans HBX.out; have HX := Lib.hid t; have HLX := Lib.hid (lt_of t); have HWA := Lib.hid (((Below.refl _ w).alloc (Nat.le_refl _) _).trans (ha.mono (by simp))); clear ha t)
    | (go_at_call 9; refine (HMA.out wa HWA.out).mono ?_; rintro e wb ⟨A, c, rfl, hL, hb⟩; have HL1 := Lib.hid hL; have HB1 := Lib.hid hb; clear hL hb)
    | (go_at_call 11; refine (lmade_any _ _ _ _ _ _).mono ?_; rintro e wc ⟨rfl, hb⟩; have HL2 := Lib.hid (HL1.out.grow hb); have HB2 := Lib.hid (thn HB1.out hb); clear hb))
  obtain ⟨W4, hW4⟩ : ∃ W, wc.alloc (.cells #[.int .i64 (kk : Int), .int .i64 0, .slice A N c] 32) = W := ⟨_, rfl⟩
  have hB4 : Below wc.heap.size wc W4 := by rw [← hW4]; exact (Below.refl _ wc).alloc (Nat.le_refl _) _
  have pH : W4.heap[wc.heap.size]? = some (.cells #[.int .i64 (kk : Int), .int .i64 0, .slice A N c] 32) := by rw [← hW4]; exact heap_alloc_new wc _
  have pX := (hB4.block _ (Nat.lt_of_lt_of_le HLX.out HB2.out.size)).trans ((HB2.out.block _ HLX.out).trans HX.out)
  rw [hW4]
  obtain ⟨bX, hbX⟩ : ∃ b, w.heap.size = b := ⟨_, rfl⟩
  obtain ⟨bH, hbH⟩ : ∃ b, wc.heap.size = b := ⟨_, rfl⟩
  rw [hbX] at pX ⊢
  rw [hbH] at pH ⊢
  have HL4 := Lib.hid (HL2.out.grow hB4)
  have HB4 := Lib.hid (thn (thn HWA.out HB2.out) hB4)
  have PH := Lib.hid pH
  have PX := Lib.hid pX
  have LH := Lib.hid (lt_of pH)
  have LX := Lib.hid (lt_of pX)
  obtain ⟨y0, y1, y2⟩ := box3 pH
  have Y0 := Lib.hid y0
  have Y1 := Lib.hid y1
  have Y2 := Lib.hid y2
  have x0 : W4.cell? ⟨bX, 0, none⟩ = some (.int .u64 (n0 : Int)) := by simp [World.cell?, pX]
  have X0 := Lib.hid x0
  have x1 : W4.cell? ⟨bX, 1, none⟩ = some (.int .u64 (n1 : Int)) := by simp [World.cell?, pX]
  have X1 := Lib.hid x1
  have x2 : W4.cell? ⟨bX, 2, none⟩ = some (.int .u64 (n2 : Int)) := by simp [World.cell?, pX]
  have X2 := Lib.hid x2
  have x3 : W4.cell? ⟨bX, 3, none⟩ = some (.int .u64 (n3 : Int)) := by simp [World.cell?, pX]
  have X3 := Lib.hid x3
  clear x0 x1 x2 x3 y0 y1 y2 pH pX hW4 hB4 hbX hbH HL1 HL2 HB1 HB2 HWA HX HLX HMA HBX
  obtain ⟨ea, hea⟩ : ∃ x, estL (withB (n0) (min n1 n2)) L = x := ⟨_, rfl⟩
  obtain ⟨eb, heb⟩ : ∃ x, estL (withB (n0) (max n1 n2)) L = x := ⟨_, rfl⟩
  obtain ⟨ec, hec⟩ : ∃ x, estL (withB (max n0 n3) (n1)) L = x := ⟨_, rfl⟩
  obtain ⟨ed, hed⟩ : ∃ x, estL (withB (min n0 n3) (n1)) L = x := ⟨_, rfl⟩
  obtain ⟨et, het⟩ : ∃ x, tot L = x := ⟨_, rfl⟩
  have hall : estL (withB (n0 / 2) (n0 / 2 + 1)) L = et := by
    rw [← het]
    exact est_all (fun x => by unfold withB; rw [decide_eq_true_iff]; omega) L
  have hab : ea ≤ eb := by
    rw [← hea, ← heb]
    exact est_mono (fun x hx => by unfold withB at *; rw [decide_eq_true_iff] at *; omega) L
  have hcd : ec ≤ ed := by
    rw [← hec, ← hed]
    exact est_mono (fun x hx => by unfold withB at *; rw [decide_eq_true_iff] at *; omega) L
  have dab : decide (ea ≤ eb) = true := by simpa using hab
  have dcd : decide (ec ≤ ed) = true := by simpa using hcd
  have CA' : ∀ W : World, Grows W4 W → Calls Try.prog 13 #[.agg #[.int .i64 (kk : Int), .int .i64 0, .slice A N c], .int .u64 ((n0 : Nat) : Int), .int .u64 ((min n1 n2 : Nat) : Int)] W fun e w' => e = .returned (.int .u64 (ea : Int)) ∧ Below W.heap.size W w' := by
    intro W hW
    have := of_any (kk : Int) 0 L (by have := HMD.out.len; omega) (fun i => by have := HMD.out.lev i; omega) (by have := HMD.out.small; omega) (n0) (min n1 n2) (by omega) W A c (by rw [HN.out]; exact HL4.out.grow hW)
    rw [hea, HN.out] at this
    exact this
  have CA := Lib.hid CA'
  clear CA'
  have CB' : ∀ W : World, Grows W4 W → Calls Try.prog 13 #[.agg #[.int .i64 (kk : Int), .int .i64 0, .slice A N c], .int .u64 ((n0 : Nat) : Int), .int .u64 ((max n1 n2 : Nat) : Int)] W fun e w' => e = .returned (.int .u64 (eb : Int)) ∧ Below W.heap.size W w' := by
    intro W hW
    have := of_any (kk : Int) 0 L (by have := HMD.out.len; omega) (fun i => by have := HMD.out.lev i; omega) (by have := HMD.out.small; omega) (n0) (max n1 n2) (by omega) W A c (by rw [HN.out]; exact HL4.out.grow hW)
    rw [heb, HN.out] at this
    exact this
  have CB := Lib.hid CB'
  clear CB'
  have CC' : ∀ W : World, Grows W4 W → Calls Try.prog 13 #[.agg #[.int .i64 (kk : Int), .int .i64 0, .slice A N c], .int .u64 ((max n0 n3 : Nat) : Int), .int .u64 ((n1 : Nat) : Int)] W fun e w' => e = .returned (.int .u64 (ec : Int)) ∧ Below W.heap.size W w' := by
    intro W hW
    have := of_any (kk : Int) 0 L (by have := HMD.out.len; omega) (fun i => by have := HMD.out.lev i; omega) (by have := HMD.out.small; omega) (max n0 n3) (n1) (by omega) W A c (by rw [HN.out]; exact HL4.out.grow hW)
    rw [hec, HN.out] at this
    exact this
  have CC := Lib.hid CC'
  clear CC'
  have CD' : ∀ W : World, Grows W4 W → Calls Try.prog 13 #[.agg #[.int .i64 (kk : Int), .int .i64 0, .slice A N c], .int .u64 ((min n0 n3 : Nat) : Int), .int .u64 ((n1 : Nat) : Int)] W fun e w' => e = .returned (.int .u64 (ed : Int)) ∧ Below W.heap.size W w' := by
    intro W hW
    have := of_any (kk : Int) 0 L (by have := HMD.out.len; omega) (fun i => by have := HMD.out.lev i; omega) (by have := HMD.out.small; omega) (min n0 n3) (n1) (by omega) W A c (by rw [HN.out]; exact HL4.out.grow hW)
    rw [hed, HN.out] at this
    exact this
  have CD := Lib.hid CD'
  clear CD'
  have hal : ∀ W : World, Grows W4 W → Calls Try.prog 13 #[.agg #[.int .i64 (kk : Int), .int .i64 0, .slice A N c], .int .u64 ((n0 : Int) / 2), .int .u64 ((n0 : Int) / 2 + 1)] W fun e w' => e = .returned (.int .u64 (et : Int)) ∧ Below W.heap.size W w' := by
    intro W hW
    have := of_any (kk : Int) 0 L (by have := HMD.out.len; omega) (fun i => by have := HMD.out.lev i; omega) (by have := HMD.out.small; omega) (n0 / 2) (n0 / 2 + 1) (by omega) W A c (by rw [HN.out]; exact HL4.out.grow hW)
    rw [hall, HN.out, show ((n0 / 2 + 1 : Nat) : Int) = (n0 : Int) / 2 + 1 by omega, show ((n0 / 2 : Nat) : Int) = (n0 : Int) / 2 by omega] at this
    exact this
  have hto : ∀ W : World, Grows W4 W → Calls Try.prog 17 #[.agg #[.int .i64 (kk : Int), .int .i64 0, .slice A N c]] W fun e w' => e = .returned (.int .u64 (et : Int)) ∧ Below W.heap.size W w' := by
    intro W hW
    have := total_any (kk : Int) 0 L (by have := HMD.out.len; omega) (by have := HMD.out.small; omega) W A c (by rw [HN.out]; exact HL4.out.grow hW)
    rw [het, HN.out] at this
    exact this
  have CE := Lib.hid hal
  have CT := Lib.hid hto
  clear hal hto hea heb hec hed het hall hab hcd
  obtain ⟨y0, y1, y2⟩ := box3 (((Below.refl W4.heap.size W4).block bH LH.out).trans PH.out)
  have v0 := ((Below.refl W4.heap.size W4).cell (p := ⟨bX, 0, none⟩) LX.out).trans X0.out
  have v1 := ((Below.refl W4.heap.size W4).cell (p := ⟨bX, 1, none⟩) LX.out).trans X1.out
  have v2 := ((Below.refl W4.heap.size W4).cell (p := ⟨bX, 2, none⟩) LX.out).trans X2.out
  have v3 := ((Below.refl W4.heap.size W4).cell (p := ⟨bX, 3, none⟩) LX.out).trans X3.out
  have lH := Nat.lt_of_lt_of_le LH.out (Below.refl W4.heap.size W4).size
  have lX := Nat.lt_of_lt_of_le LX.out (Below.refl W4.heap.size W4).size
  go_cut [9] from 18 to 26 (fun s wx => s = .int .u64 (ea : Int) ∧ Below W4.heap.size W4 wx)
  case first =>
    have cc := CA.out W4 (Below.refl W4.heap.size W4)
    by_cases h1 : (n2 : Int) < (n1 : Int)
    · rw [show min n1 n2 = n2 by omega] at cc
      have CC_ := Lib.hid cc
      clear cc
      go_wp2_with (go_at_call 13; refine CC_.out.mono ?_; rintro e w6 ⟨rfl, hb2⟩; have HB2 := Lib.hid hb2; clear hb2)
      go_meet
      case rel => exact ⟨rfl, HB2.out⟩
    · rw [show min n1 n2 = n1 by omega] at cc
      have CC_ := Lib.hid cc
      clear cc
      go_wp2_with (go_at_call 13; refine CC_.out.mono ?_; rintro e w6 ⟨rfl, hb2⟩; have HB2 := Lib.hid hb2; clear hb2)
      go_meet
      case rel => exact ⟨rfl, HB2.out⟩
  case rest =>
    obtain ⟨rfl, hg⟩ := hcut
    rename World => W5
    have HG5 := Lib.hid (thn (Below.refl W4.heap.size W4) hg)
    clear hg y0 y1 y2 v0 v1 v2 v3 lH lX
    go_upto_region 4 with (fail)
    obtain ⟨y0, y1, y2⟩ := box3 ((HG5.out.block bH LH.out).trans PH.out)
    have v0 := (HG5.out.cell (p := ⟨bX, 0, none⟩) LX.out).trans X0.out
    have v1 := (HG5.out.cell (p := ⟨bX, 1, none⟩) LX.out).trans X1.out
    have v2 := (HG5.out.cell (p := ⟨bX, 2, none⟩) LX.out).trans X2.out
    have v3 := (HG5.out.cell (p := ⟨bX, 3, none⟩) LX.out).trans X3.out
    have lH := Nat.lt_of_lt_of_le LH.out HG5.out.size
    have lX := Nat.lt_of_lt_of_le LX.out HG5.out.size
    go_cut [10] from 27 to 35 (fun s wx => s = .int .u64 (eb : Int) ∧ Below W5.heap.size W5 wx)
    case first =>
      have cc := CB.out W5 HG5.out
      by_cases h1 : (n1 : Int) < (n2 : Int)
      · rw [show max n1 n2 = n2 by omega] at cc
        have CC_ := Lib.hid cc
        clear cc
        go_wp2_with (go_at_call 13; refine CC_.out.mono ?_; rintro e w6 ⟨rfl, hb2⟩; have HB2 := Lib.hid hb2; clear hb2)
        go_meet
        case rel => exact ⟨rfl, HB2.out⟩
      · rw [show max n1 n2 = n1 by omega] at cc
        have CC_ := Lib.hid cc
        clear cc
        go_wp2_with (go_at_call 13; refine CC_.out.mono ?_; rintro e w6 ⟨rfl, hb2⟩; have HB2 := Lib.hid hb2; clear hb2)
        go_meet
        case rel => exact ⟨rfl, HB2.out⟩
    case rest =>
      obtain ⟨rfl, hg⟩ := hcut
      rename World => W6
      have HG6 := Lib.hid (thn HG5.out hg)
      clear hg y0 y1 y2 v0 v1 v2 v3 lH lX
      go_upto_region 5 with (fail)
      obtain ⟨y0, y1, y2⟩ := box3 ((HG6.out.block bH LH.out).trans PH.out)
      have v0 := (HG6.out.cell (p := ⟨bX, 0, none⟩) LX.out).trans X0.out
      have v1 := (HG6.out.cell (p := ⟨bX, 1, none⟩) LX.out).trans X1.out
      have v2 := (HG6.out.cell (p := ⟨bX, 2, none⟩) LX.out).trans X2.out
      have v3 := (HG6.out.cell (p := ⟨bX, 3, none⟩) LX.out).trans X3.out
      have lH := Nat.lt_of_lt_of_le LH.out HG6.out.size
      have lX := Nat.lt_of_lt_of_le LX.out HG6.out.size
      go_cut [11] from 36 to 44 (fun s wx => s = .int .u64 (ec : Int) ∧ Below W6.heap.size W6 wx)
      case first =>
        have cc := CC.out W6 HG6.out
        by_cases h1 : (n0 : Int) < (n3 : Int)
        · rw [show max n0 n3 = n3 by omega] at cc
          have CC_ := Lib.hid cc
          clear cc
          go_wp2_with (go_at_call 13; refine CC_.out.mono ?_; rintro e w6 ⟨rfl, hb2⟩; have HB2 := Lib.hid hb2; clear hb2)
          go_meet
          case rel => exact ⟨rfl, HB2.out⟩
        · rw [show max n0 n3 = n0 by omega] at cc
          have CC_ := Lib.hid cc
          clear cc
          go_wp2_with (go_at_call 13; refine CC_.out.mono ?_; rintro e w6 ⟨rfl, hb2⟩; have HB2 := Lib.hid hb2; clear hb2)
          go_meet
          case rel => exact ⟨rfl, HB2.out⟩
      case rest =>
        obtain ⟨rfl, hg⟩ := hcut
        rename World => W7
        have HG7 := Lib.hid (thn HG6.out hg)
        clear hg y0 y1 y2 v0 v1 v2 v3 lH lX
        go_upto_region 6 with (fail)
        obtain ⟨y0, y1, y2⟩ := box3 ((HG7.out.block bH LH.out).trans PH.out)
        have v0 := (HG7.out.cell (p := ⟨bX, 0, none⟩) LX.out).trans X0.out
        have v1 := (HG7.out.cell (p := ⟨bX, 1, none⟩) LX.out).trans X1.out
        have v2 := (HG7.out.cell (p := ⟨bX, 2, none⟩) LX.out).trans X2.out
        have v3 := (HG7.out.cell (p := ⟨bX, 3, none⟩) LX.out).trans X3.out
        have lH := Nat.lt_of_lt_of_le LH.out HG7.out.size
        have lX := Nat.lt_of_lt_of_le LX.out HG7.out.size
        go_cut [12] from 45 to 53 (fun s wx => s = .int .u64 (ed : Int) ∧ Below W7.heap.size W7 wx)
        case first =>
          have cc := CD.out W7 HG7.out
          by_cases h1 : (n3 : Int) < (n0 : Int)
          · rw [show min n0 n3 = n3 by omega] at cc
            have CC_ := Lib.hid cc
            clear cc
            go_wp2_with (go_at_call 13; refine CC_.out.mono ?_; rintro e w6 ⟨rfl, hb2⟩; have HB2 := Lib.hid hb2; clear hb2)
            go_meet
            case rel => exact ⟨rfl, HB2.out⟩
          · rw [show min n0 n3 = n0 by omega] at cc
            have CC_ := Lib.hid cc
            clear cc
            go_wp2_with (go_at_call 13; refine CC_.out.mono ?_; rintro e w6 ⟨rfl, hb2⟩; have HB2 := Lib.hid hb2; clear hb2)
            go_meet
            case rel => exact ⟨rfl, HB2.out⟩
        case rest =>
          obtain ⟨rfl, hg⟩ := hcut
          rename World => W8
          have HG8 := Lib.hid (thn HG7.out hg)
          clear hg y0 y1 y2 v0 v1 v2 v3 lH lX
          go_upto_region 7 with (fail)
          have tH := (HG8.out.block bH LH.out).trans PH.out
          have tX := (HG8.out.block bX LX.out).trans PX.out
          obtain ⟨y0, y1, y2⟩ := box3 tH
          have v0 : W8.cell? ⟨bX, 0, none⟩ = some (.int .u64 (n0 : Int)) := by simp [World.cell?, tX]
          have v1 : W8.cell? ⟨bX, 1, none⟩ = some (.int .u64 (n1 : Int)) := by simp [World.cell?, tX]
          have v2 : W8.cell? ⟨bX, 2, none⟩ = some (.int .u64 (n2 : Int)) := by simp [World.cell?, tX]
          have v3 : W8.cell? ⟨bX, 3, none⟩ = some (.int .u64 (n3 : Int)) := by simp [World.cell?, tX]
          have lH := lt_of tH
          have lX := lt_of tX
          clear PH PX LH LX Y0 Y1 Y2 X0 X1 X2 X3
          have PH := Lib.hid tH
          have PX := Lib.hid tX
          have LH := Lib.hid lH
          have LX := Lib.hid lX
          have Y0 := Lib.hid y0
          have Y1 := Lib.hid y1
          have Y2 := Lib.hid y2
          have X0 := Lib.hid v0
          have X1 := Lib.hid v1
          have X2 := Lib.hid v2
          have X3 := Lib.hid v3
          clear tH tX y0 y1 y2 lH lX v0 v1 v2 v3
          have bq : (n0 : Int) / 2 + 1 ≤ 18446744073709551615 := by omega
          have bw : IntKind.u64.wrap ((n0 : Int) / 2) = (n0 : Int) / 2 := IntWalk.u64_in _ ⟨by omega, by omega⟩
          have bw1 : IntKind.u64.wrap ((n0 : Int) / 2 + 1) = (n0 : Int) / 2 + 1 := IntWalk.u64_in _ ⟨by omega, by omega⟩
          refine region_facts0 (fr := ?frA) 25 [54, 55, 56, 57, 58, 59, 60, 61, 62, 63, 64, 65, 66, 67, 68, 69, 70, 71, 72, 73, 74, 75, 76, 77, 78] (fun i v W => match i with
              | 0 => v = .bool true
              | 1 => v = .bool true
              | 2 => v = .int .u64 (ea : Int)
              | 3 => v = .int .u64 (eb : Int)
              | 4 => v = .bool true
              | 5 => v = .bool true
              | 6 => v = .bool true
              | 7 => v = .int .u64 (ec : Int)
              | 8 => v = .int .u64 (ed : Int)
              | 9 => v = .bool true
              | 10 => v = .bool true
              | 11 => v = .bool true
              | 12 => v = .agg #[.int .i64 (kk : Int), .int .i64 0, .slice A N c]
              | 13 => v = .pointer (some ⟨bX, 0, none⟩)
              | 14 => v = .int .u64 (n0 : Int)
              | 15 => v = .int .u64 ((n0 : Int) / 2)
              | 16 => v = .pointer (some ⟨bX, 0, none⟩)
              | 17 => v = .int .u64 (n0 : Int)
              | 18 => v = .int .u64 ((n0 : Int) / 2)
              | 19 => v = .int .u64 ((n0 : Int) / 2 + 1)
              | 20 => v = .int .u64 (et : Int)
              | 21 => v = .agg #[.int .i64 (kk : Int), .int .i64 0, .slice A N c]
              | 22 => v = .int .u64 (et : Int)
              | 23 => v = .bool true
              | 24 => v = .bool true
              | _ => True) rfl ?hBA (by kernel_rfl) (by kernel_rfl) (by kernel_rfl) ?hfrA ?hFA ?hopA ?htailA
          case hBA => kernel_rfl
          case hfrA =>
            intro us
            simp only [putL]
            go_simp
            rfl
          case hFA =>
            intro i v W W' hG h
            match i with
            | 0 => exact h
            | 1 => exact h
            | 2 => exact h
            | 3 => exact h
            | 4 => exact h
            | 5 => exact h
            | 6 => exact h
            | 7 => exact h
            | 8 => exact h
            | 9 => exact h
            | 10 => exact h
            | 11 => exact h
            | 12 => exact h
            | 13 => exact h
            | 14 => exact h
            | 15 => exact h
            | 16 => exact h
            | 17 => exact h
            | 18 => exact h
            | 19 => exact h
            | 20 => exact h
            | 21 => exact h
            | 22 => exact h
            | 23 => exact h
            | 24 => exact h
            | n + 25 => trivial
          case hopA =>
            intro i hi us W2 hG hd
            match i, hi with
            | 0, _ =>
              clear hd
              exact hop_value rfl rfl rfl (v := .bool true) (W' := W2) (by go_simp) (Grows.refl _) rfl
            | 1, _ =>
              have h0 : us 0 = .bool true := hd 0 (by omega) (by kernel_rfl)
              clear hd
              exact hop_value rfl rfl rfl (v := .bool true) (W' := W2) (by go_simp) (Grows.refl _) rfl
            | 2, _ =>
              have h1 : us 1 = .bool true := hd 1 (by omega) (by kernel_rfl)
              clear hd
              rw [h1]
              exact hop_value rfl rfl rfl (v := .int .u64 (ea : Int)) (W' := W2) (by go_simp) (Grows.refl _) rfl
            | 3, _ =>
              have h1 : us 1 = .bool true := hd 1 (by omega) (by kernel_rfl)
              clear hd
              rw [h1]
              exact hop_value rfl rfl rfl (v := .int .u64 (eb : Int)) (W' := W2) (by go_simp) (Grows.refl _) rfl
            | 4, _ =>
              have h1 : us 1 = .bool true := hd 1 (by omega) (by kernel_rfl)
              have h2 : us 2 = .int .u64 (ea : Int) := hd 2 (by omega) (by kernel_rfl)
              have h3 : us 3 = .int .u64 (eb : Int) := hd 3 (by omega) (by kernel_rfl)
              clear hd
              rw [h1]
              exact hop_value rfl rfl rfl (v := .bool true) (W' := W2) (by go_simp) (Grows.refl _) rfl
            | 5, _ =>
              have h1 : us 1 = .bool true := hd 1 (by omega) (by kernel_rfl)
              have h4 : us 4 = .bool true := hd 4 (by omega) (by kernel_rfl)
              clear hd
              exact hop_value rfl rfl rfl (v := .bool true) (W' := W2) (by go_simp) (Grows.refl _) rfl
            | 6, _ =>
              have h5 : us 5 = .bool true := hd 5 (by omega) (by kernel_rfl)
              clear hd
              exact hop_value rfl rfl rfl (v := .bool true) (W' := W2) (by go_simp) (Grows.refl _) rfl
            | 7, _ =>
              have h6 : us 6 = .bool true := hd 6 (by omega) (by kernel_rfl)
              clear hd
              rw [h6]
              exact hop_value rfl rfl rfl (v := .int .u64 (ec : Int)) (W' := W2) (by go_simp) (Grows.refl _) rfl
            | 8, _ =>
              have h6 : us 6 = .bool true := hd 6 (by omega) (by kernel_rfl)
              clear hd
              rw [h6]
              exact hop_value rfl rfl rfl (v := .int .u64 (ed : Int)) (W' := W2) (by go_simp) (Grows.refl _) rfl
            | 9, _ =>
              have h6 : us 6 = .bool true := hd 6 (by omega) (by kernel_rfl)
              have h7 : us 7 = .int .u64 (ec : Int) := hd 7 (by omega) (by kernel_rfl)
              have h8 : us 8 = .int .u64 (ed : Int) := hd 8 (by omega) (by kernel_rfl)
              clear hd
              rw [h6]
              exact hop_value rfl rfl rfl (v := .bool true) (W' := W2) (by go_simp) (Grows.refl _) rfl
            | 10, _ =>
              have h6 : us 6 = .bool true := hd 6 (by omega) (by kernel_rfl)
              have h9 : us 9 = .bool true := hd 9 (by omega) (by kernel_rfl)
              clear hd
              exact hop_value rfl rfl rfl (v := .bool true) (W' := W2) (by go_simp) (Grows.refl _) rfl
            | 11, _ =>
              have h10 : us 10 = .bool true := hd 10 (by omega) (by kernel_rfl)
              clear hd
              exact hop_value rfl rfl rfl (v := .bool true) (W' := W2) (by go_simp) (Grows.refl _) rfl
            | 12, _ =>
              have h11 : us 11 = .bool true := hd 11 (by omega) (by kernel_rfl)
              clear hd
              rw [h11]
              have q0 := (hG.cell (b := bH) (o := 0) LH.out).trans Y0.out
              have q0l := Nat.lt_of_lt_of_le LH.out hG.size
              have q1 := (hG.cell (b := bH) (o := 1) LH.out).trans Y1.out
              have q1l := Nat.lt_of_lt_of_le LH.out hG.size
              have q2 := (hG.cell (b := bH) (o := 2) LH.out).trans Y2.out
              have q2l := Nat.lt_of_lt_of_le LH.out hG.size
              exact hop_value rfl rfl rfl (v := .agg #[.int .i64 (kk : Int), .int .i64 0, .slice A N c]) (W' := W2) (by go_simp) (Grows.refl _) rfl
            | 13, _ =>
              have h11 : us 11 = .bool true := hd 11 (by omega) (by kernel_rfl)
              clear hd
              rw [h11]
              exact hop_value rfl rfl rfl (v := .pointer (some ⟨bX, 0, none⟩)) (W' := W2) (by go_simp) (Grows.refl _) rfl
            | 14, _ =>
              have h11 : us 11 = .bool true := hd 11 (by omega) (by kernel_rfl)
              have h13 : us 13 = .pointer (some ⟨bX, 0, none⟩) := hd 13 (by omega) (by kernel_rfl)
              clear hd
              rw [h11]
              have q := (hG.cell (b := bX) (o := 0) LX.out).trans X0.out
              have ql := Nat.lt_of_lt_of_le LX.out hG.size
              exact hop_value rfl rfl rfl (v := .int .u64 (n0 : Int)) (W' := W2) (by go_simp) (Grows.refl _) rfl
            | 15, _ =>
              have h11 : us 11 = .bool true := hd 11 (by omega) (by kernel_rfl)
              have h14 : us 14 = .int .u64 (n0 : Int) := hd 14 (by omega) (by kernel_rfl)
              clear hd
              rw [h11]
              exact hop_value rfl rfl rfl (v := .int .u64 ((n0 : Int) / 2)) (W' := W2) (by go_simp) (Grows.refl _) rfl
            | 16, _ =>
              have h11 : us 11 = .bool true := hd 11 (by omega) (by kernel_rfl)
              clear hd
              rw [h11]
              exact hop_value rfl rfl rfl (v := .pointer (some ⟨bX, 0, none⟩)) (W' := W2) (by go_simp) (Grows.refl _) rfl
            | 17, _ =>
              have h11 : us 11 = .bool true := hd 11 (by omega) (by kernel_rfl)
              have h16 : us 16 = .pointer (some ⟨bX, 0, none⟩) := hd 16 (by omega) (by kernel_rfl)
              clear hd
              rw [h11]
              have q := (hG.cell (b := bX) (o := 0) LX.out).trans X0.out
              have ql := Nat.lt_of_lt_of_le LX.out hG.size
              exact hop_value rfl rfl rfl (v := .int .u64 (n0 : Int)) (W' := W2) (by go_simp) (Grows.refl _) rfl
            | 18, _ =>
              have h11 : us 11 = .bool true := hd 11 (by omega) (by kernel_rfl)
              have h17 : us 17 = .int .u64 (n0 : Int) := hd 17 (by omega) (by kernel_rfl)
              clear hd
              rw [h11]
              exact hop_value rfl rfl rfl (v := .int .u64 ((n0 : Int) / 2)) (W' := W2) (by go_simp) (Grows.refl _) rfl
            | 19, _ =>
              have h11 : us 11 = .bool true := hd 11 (by omega) (by kernel_rfl)
              have h18 : us 18 = .int .u64 ((n0 : Int) / 2) := hd 18 (by omega) (by kernel_rfl)
              clear hd
              rw [h11]
              exact hop_value rfl rfl rfl (v := .int .u64 ((n0 : Int) / 2 + 1)) (W' := W2) (by go_simp) (Grows.refl _) rfl
            | 20, _ =>
              have h11 : us 11 = .bool true := hd 11 (by omega) (by kernel_rfl)
              have h12 : us 12 = .agg #[.int .i64 (kk : Int), .int .i64 0, .slice A N c] := hd 12 (by omega) (by kernel_rfl)
              have h15 : us 15 = .int .u64 ((n0 : Int) / 2) := hd 15 (by omega) (by kernel_rfl)
              have h19 : us 19 = .int .u64 ((n0 : Int) / 2 + 1) := hd 19 (by omega) (by kernel_rfl)
              clear hd
              rw [h11]
              refine hop_call rfl rfl rfl (f := 13) (args := #[.agg #[.int .i64 (kk : Int), .int .i64 0, .slice A N c], .int .u64 ((n0 : Int) / 2), .int .u64 ((n0 : Int) / 2 + 1)]) (by go_simp) ?_
              refine (CE.out W2 (thn HG8.out hG)).mono ?_
              rintro e W' ⟨rfl, hb⟩
              exact ⟨_, rfl, hb, rfl⟩
            | 21, _ =>
              have h11 : us 11 = .bool true := hd 11 (by omega) (by kernel_rfl)
              clear hd
              rw [h11]
              have q0 := (hG.cell (b := bH) (o := 0) LH.out).trans Y0.out
              have q0l := Nat.lt_of_lt_of_le LH.out hG.size
              have q1 := (hG.cell (b := bH) (o := 1) LH.out).trans Y1.out
              have q1l := Nat.lt_of_lt_of_le LH.out hG.size
              have q2 := (hG.cell (b := bH) (o := 2) LH.out).trans Y2.out
              have q2l := Nat.lt_of_lt_of_le LH.out hG.size
              exact hop_value rfl rfl rfl (v := .agg #[.int .i64 (kk : Int), .int .i64 0, .slice A N c]) (W' := W2) (by go_simp) (Grows.refl _) rfl
            | 22, _ =>
              have h11 : us 11 = .bool true := hd 11 (by omega) (by kernel_rfl)
              have h21 : us 21 = .agg #[.int .i64 (kk : Int), .int .i64 0, .slice A N c] := hd 21 (by omega) (by kernel_rfl)
              clear hd
              rw [h11]
              refine hop_call rfl rfl rfl (f := 17) (args := #[.agg #[.int .i64 (kk : Int), .int .i64 0, .slice A N c]]) (by go_simp) ?_
              refine (CT.out W2 (thn HG8.out hG)).mono ?_
              rintro e W' ⟨rfl, hb⟩
              exact ⟨_, rfl, hb, rfl⟩
            | 23, _ =>
              have h11 : us 11 = .bool true := hd 11 (by omega) (by kernel_rfl)
              have h20 : us 20 = .int .u64 (et : Int) := hd 20 (by omega) (by kernel_rfl)
              have h22 : us 22 = .int .u64 (et : Int) := hd 22 (by omega) (by kernel_rfl)
              clear hd
              rw [h11]
              exact hop_value rfl rfl rfl (v := .bool true) (W' := W2) (by go_simp) (Grows.refl _) rfl
            | 24, _ =>
              have h11 : us 11 = .bool true := hd 11 (by omega) (by kernel_rfl)
              have h23 : us 23 = .bool true := hd 23 (by omega) (by kernel_rfl)
              clear hd
              exact hop_value rfl rfl rfl (v := .bool true) (W' := W2) (by go_simp) (Grows.refl _) rfl
            | d + 25, h => exact absurd h (by omega)
          case htailA =>
            intro us W2 hG hf
            have hz : us 24 = .bool true := hf 24 (by omega)
            clear hf
            rw [hz]
            have HG2 := Lib.hid hG
            clear hz hG
            simp only [List.drop_succ_cons, List.drop_zero]
            repeat (go_big_quiet_step (fail))
            refine wpQuiet_nil ?_
            rintro w' ⟨nq, rfl⟩
            have HBX := Lib.hid (below_drewN HG2.out nq)
            clear HG2
            generalize W2.drewN nq = wy at *
            go_wp2
            go_ret
            exact ⟨rfl, thn (thn HB4.out HG8.out) HBX.out⟩

set_option maxRecDepth 100000 in
theorem lifted (os : Os) (started : os.Started) (H : Type) (enc : TypeId × Value → H) :
    ReturnsInHanded {} Try.checked os 7 .any (Rows.estimateGrowsSpec.pre6 enc Try.prog Try.f7 Rows.estimateGrowsRow.domain false) (Rows.estimateGrowsSpec.post enc Try.prog Try.f7 false true false false) := by
  refine returnsInHanded_of_change (C := Try.checked) own started (by kernel_rfl) Try.func7
    (ChangeSpec.witness6 (enc := enc) (C := Try.checked) false ⟨#[], #[.int .i64 0, .slice none 0 0, .agg #[.int .u64 0, .int .u64 0, .int .u64 0, .int .u64 0]], []⟩ 8 (by kernel_rfl) (by kernel_rfl) (by kernel_rfl) (by kernel_rfl)) ?_
  intro W base args ds gs before hval0 hW hcnd _
  have hval : ∀ (j : Nat) t v, Try.f7.params[j]? = some t → args[j]? = some v → Value.okWide Try.prog W .any base t v := hval0
  have hW' := hW
  obtain ⟨p, q, hA0, hV, rfl, hfz, hnd⟩ := hW
  have hA : DataW.TrodAll enc Try.prog W 0 (fun _ => true) true Try.f7.params.toList args.toList ds p := hA0
  rw [Try.params7] at hA hval
  obtain ⟨v0, vs0, d0, ds0, p0, q0, hargs, rfl, rfl, h0, r0⟩ := trodAll_cons hA
  obtain ⟨v1, vs1, d1, ds1, p1, q1, rfl, rfl, rfl, h1, r1⟩ := trodAll_cons r0
  obtain ⟨v2, vs2, d2, ds2, p2, q2, rfl, rfl, rfl, h2, r2⟩ := trodAll_cons r1
  obtain ⟨rfl, rfl, rfl⟩ := trodAll_nil r2
  obtain rfl : args = #[v0, v1, v2] := by cases args; simp_all
  obtain ⟨rfl, rfl⟩ := trodVars_none hV
  obtain ⟨a0, rfl, rfl, rfl, w0⟩ := open_int Try.underlying3 (hval 0 3 v0 rfl rfl) h0
  obtain ⟨a1, len1, cap1, rfl⟩ := okWide_slice Try.underlying22 (hval 1 22 v1 rfl rfl)
  have k1 := h1
  have lt1 : ∀ x ∈ p1, x.block < W.heap.size := by obtain ⟨m, hm⟩ := k1; exact DataW.trod_lt m _ _ _ hm
  obtain ⟨z1, w1⟩ := Op.open_flats (f := 9) (ks := [.u64, .u64]) Try.underlying22 (by kernel_rfl) (by kernel_rfl) (by decide) h1
  have k2 := h2
  have lt2 : ∀ x ∈ p2, x.block < W.heap.size := by obtain ⟨m, hm⟩ := k2; exact DataW.trod_lt m _ _ _ hm
  obtain ⟨c2, rfl, fit2⟩ := Op.open_flat (f := 9) (ks := [.u64, .u64, .u64, .u64]) (by kernel_rfl) (by kernel_rfl) (hval 2 39 v2 rfl rfl) h2
  obtain ⟨a2_0, a2_1, a2_2, a2_3, rfl, w2_0, w2_1, w2_2, w2_3⟩ := fit2_of fit2
  clear hA0 hval0
  refine (walk a0 a1 len1 cap1 z1 a2_0 a2_1 a2_2 a2_3 W w0 w1 w2_0 w2_1 w2_2 w2_3).mono fun e W' ⟨he, bel⟩ => ?_
  subst he
  exact ⟨_, rfl, _, _, _, [], _, [], hW', trodAll_mk1 (shut_bool Try.underlying4 _), (trodAll_cons_mk (shut_int Try.underlying3 w0) (trodAll_cons_mk (Below.trod laidOut (by kernel_rfl) (of_decide_eq_true (by kernel_rfl)) k1 bel lt1) (trodAll_cons_mk (Below.trod laidOut (by kernel_rfl) (of_decide_eq_true (by kernel_rfl)) k2 bel lt2) trodAll_mk0))), rfl, bel.frame _, fun h => by cases h⟩

theorem over : Rows.estimateGrowsRow.holds Try.pinned (OpenSpec.ofChange Rows.estimateGrowsSpec) :=
  OpenClaim.holds_of_wide 7 Try.f7 rfl rfl rfl rfl rfl rfl rfl ⟨rfl, rfl, rfl, rfl, rfl⟩ rfl rfl rfl rfl rfl (by kernel_rfl) Try.func7 (by kernel_rfl)
    (of_decide_eq_true (by kernel_rfl)) (by unfold Func.isWrapper; first | (rw [if_pos (by decide +kernel)]; kernel_rfl) | (rw [if_neg (by decide +kernel)]; exact ⟨rfl, rfl⟩))
    (fun os started H enc _ => lifted os started H enc)

/-- The statement. -/
theorem proved : Rows.EstimateGrowsSaid := over
#print axioms proved
end Go.Proofs.Ythmbmiikhghaoaa.estimateGrows
