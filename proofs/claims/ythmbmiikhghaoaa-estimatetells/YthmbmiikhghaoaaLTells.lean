/-
  'skylight/skylightlaw08.EstimateTells' returns true for every input, and the input reads afterwards as it read before. Conditions: none.
-/
import Derived.Test.YthmbmiikhghaoaaRows
import Derived.WalkKit
import Derived.ProofKit
import Derived.OpenShut
import Derived.ShutString
import Derived.ChangeOld
import Derived.Below
import Derived.Test.YthmbmiikhghaoaaOpen
import Derived.Test.YthmbmiikhghaoaaEsAwk
namespace Go.Proofs.Ythmbmiikhghaoaa.estimateTells
open Go.Proofs Go.Proofs.Rn Go.Proofs.Lm Go.Proofs.Op Go.Proofs.Rw Go.Proofs.Lh Go.Proofs.Rf
open Go.ChangeShapes Go.WideShapes Go.ChangeAt Go.RowKit
open Go.ChangeMaps (open_string shut_string)
set_option linter.unusedVariables false

theorem own : ownKnob Try.prog.godebug = none := by kernel_rfl
theorem laidOut : laidOutB Try.prog = true := by kernel_rfl

/-- A slice of integers that came in: nil, or a row of cells of its capacity, each fitting its kind. -/
def IsRow (k : IntKind) (w : World) (a : Option Addr) (len cap : Nat) (zs : List Int) : Prop :=
  (a = none ∧ len = 0 ∧ cap = 0 ∧ zs = []) ∨
  ∃ x, a = some x ∧ len ≤ cap ∧ cap ≤ maxLen ∧ zs.length = cap ∧ (∀ i, i < zs.length → w.cell? (x.add i) = some (.int k (zs.getD i 0))) ∧ ∀ n ∈ zs, (Lit.int k n).wf = true

theorem fit2_of {c : List Value} (h : Op.Fits [.u64, .u64] c) : ∃ x0 x1 : Int, c = [.int .u64 x0, .int .u64 x1] ∧ (Lit.int .u64 x0).wf = true ∧ (Lit.int .u64 x1).wf = true := by
  cases c with
  | nil => exact h.elim
  | cons y0 c =>
  have g0 := h.1
  replace h := h.2
  cases c with
  | nil => exact h.elim
  | cons y1 c =>
  have g1 := h.1
  replace h := h.2
  cases c with
  | cons y c => exact h.elim
  | nil =>
  obtain ⟨x0, e0, e0w⟩ := g0
  obtain ⟨x1, e1, e1w⟩ := g1
  exact ⟨x0, x1, by rw [e0, e1], e0w, e1w⟩

open Go.RowKit Go.Shelf Go.Proofs.Rw Go.Proofs.Lh Go.Proofs.Rf

set_option maxRecDepth 100000 in
set_option maxHeartbeats 4000000 in
theorem walk (a0 : Int) (a1 : Option Addr) (len1 cap1 : Nat) (z1 : Nat → Nat → Int) (a2_0 a2_1 : Int) (w : World) (w0 : (Lit.int .i64 a0).wf = true) (w1 : Op.FlatRow [.u64, .u64] w a1 len1 cap1 z1) (w2_0 : (Lit.int .u64 a2_0).wf = true) (w2_1 : (Lit.int .u64 a2_1).wf = true) :
    Calls Try.prog 3 #[.int .i64 a0, .slice a1 len1 cap1, .agg #[.int .u64 a2_0, .int .u64 a2_1]] w fun e w' => e = .returned (.bool true) ∧ Below w.heap.size w w' := by
  obtain ⟨ds, hdl1, hdL1, hdB1⟩ := sp_of_row w1
  have hD1 : Deeds w a1 len1 cap1 ds := ⟨hdl1, hdL1, hdB1⟩
  obtain ⟨b00, b01⟩ := bounds_i64 w0
  have hk1 := kOf_le a0
  have hdn1 : doneN ds ≤ ds.length := by unfold doneN; omega
  have hmd : Made (kOf a0) (play (kOf a0) ds (doneN ds)).2 := play_made hk1.1 (by omega) ds _ hdn1
  have hma := fun (W : World) (hW : Below w.heap.size w W) => rmade_any a0 b00 (by omega) ds W a1 len1 cap1 (hD1.grow hW)
  obtain ⟨c00, c01⟩ := bounds_u64 w2_0
  obtain ⟨n0, rfl⟩ : ∃ n : Nat, a2_0 = (n : Int) := ⟨a2_0.toNat, by omega⟩
  have hb0 : n0 < 18446744073709551616 := by omega
  clear c00 c01 w2_0
  obtain ⟨c10, c11⟩ := bounds_u64 w2_1
  obtain ⟨n1, rfl⟩ : ∃ n : Nat, a2_1 = (n : Int) := ⟨a2_1.toNat, by omega⟩
  have hb1 : n1 < 18446744073709551616 := by omega
  clear c10 c11 w2_1
  obtain ⟨kk, hkk⟩ : ∃ x, kOf a0 = x := ⟨_, rfl⟩
  rw [hkk] at hmd
  simp only [hkk] at hma
  obtain ⟨L, hL⟩ : ∃ x, (play kk ds (doneN ds)).2 = x := ⟨_, rfl⟩
  rw [hL] at hmd
  simp only [hL] at hma
  obtain ⟨N, hN⟩ : ∃ x, L.length = x := ⟨_, rfl⟩
  simp only [hN] at hma
  have hln : N ≤ 53 := by have := hmd.len; omega
  have HMA := Lib.hid hma
  have HN := Lib.hid hN
  have HMD := Lib.hid hmd
  clear hma hmd hN hD1 hdl1 hdL1 hdB1 hkk hL w1 hdn1 hk1 w0
  have hbx : (w.alloc (.cells #[.int .u64 (n0 : Int), .int .u64 (n1 : Int)] 24)).heap[w.heap.size]? = some (.cells #[.int .u64 (n0 : Int), .int .u64 (n1 : Int)] 24) := heap_alloc_new w _
  have HBX := Lib.hid hbx
  clear hbx
  go_enter Try.func3, Try.ntmps3
  go_upto_region 3 with (first
    | (go_at_call 8; refine (awake_any _).mono ?_; rintro e wa ⟨rfl, ha⟩; have t := (ha.block w.heap.size (by simp)).trans HBX.out; have HX := Lib.hid t; have HLX := Lib.hid (lt_of t); have HWA := Lib.hid (((Below.refl _ w).alloc (Nat.le_refl _) _).trans (ha.mono (by simp))); clear ha t)
    | (go_at_call 9; refine (HMA.out wa HWA.out).mono ?_; rintro e wc ⟨A, c, rfl, hL, hb⟩; have HL1 := Lib.hid hL; have HB1 := Lib.hid hb; clear hL hb))
  have HL2 := HL1
  have HB2 := HB1
  obtain ⟨W4, hW4⟩ : ∃ W, wc.alloc (.cells #[.int .i64 (kk : Int), .int .i64 0, .slice A N c] 28) = W := ⟨_, rfl⟩
  have hB4 : Below wc.heap.size wc W4 := by rw [← hW4]; exact (Below.refl _ wc).alloc (Nat.le_refl _) _
  have pH : W4.heap[wc.heap.size]? = some (.cells #[.int .i64 (kk : Int), .int .i64 0, .slice A N c] 28) := by rw [← hW4]; exact heap_alloc_new wc _
  have pX := (hB4.block _ (Nat.lt_of_lt_of_le HLX.out HB2.out.size)).trans ((HB2.out.block _ HLX.out).trans HX.out)
  rw [hW4]
  obtain ⟨bX, hbX⟩ : ∃ b, w.heap.size = b := ⟨_, rfl⟩
  obtain ⟨bH, hbH⟩ : ∃ b, wc.heap.size = b := ⟨_, rfl⟩
  rw [hbX] at pX ⊢
  rw [hbH] at pH ⊢
  have HL4 := Lib.hid (HL2.out.grow hB4)
  have HB4 := Lib.hid (thn (thn HWA.out HB2.out) hB4)
  have PH := Lib.hid pH
  have PX := Lib.hid pX
  have LH := Lib.hid (lt_of pH)
  have LX := Lib.hid (lt_of pX)
  obtain ⟨y0, y1, y2⟩ := box3 pH
  have Y0 := Lib.hid y0
  have Y1 := Lib.hid y1
  have Y2 := Lib.hid y2
  have x0 : W4.cell? ⟨bX, 0, none⟩ = some (.int .u64 (n0 : Int)) := by simp [World.cell?, pX]
  have X0 := Lib.hid x0
  have x1 : W4.cell? ⟨bX, 1, none⟩ = some (.int .u64 (n1 : Int)) := by simp [World.cell?, pX]
  have X1 := Lib.hid x1
  clear x0 x1 y0 y1 y2 pH pX hW4 hB4 hbX hbH HL1 HL2 HB1 HB2 HWA HX HLX HMA HBX
  obtain ⟨s, hs⟩ : ∃ x, sureL (withB n0 n1) 0 L = x := ⟨_, rfl⟩
  obtain ⟨y, hy⟩ : ∃ x, cutS (withB n0 n1) 0 L = x := ⟨_, rfl⟩
  obtain ⟨es, hes⟩ : ∃ x, estL (withB n0 n1) L = x := ⟨_, rfl⟩
  have CP' : ∀ W : World, Grows W4 W → Calls Try.prog 10 #[.agg #[.int .i64 (kk : Int), .int .i64 0, .slice A N c], .int .u64 (n0 : Int), .int .u64 (n1 : Int)] W fun e w' => e = .returned (.tuple #[.int .u64 (s : Int), .int .u64 (y : Int)]) ∧ Below W.heap.size W w' := by
    intro W hW
    have := parts_any (kk : Int) 0 L (by have := HMD.out.len; omega) (fun i => by have := HMD.out.lev i; omega) (by have := HMD.out.small; omega) n0 n1 (by omega) W A c (by rw [HN.out]; exact HL4.out.grow hW)
    rw [hs, hy, HN.out] at this
    exact this
  have CP := Lib.hid CP'
  clear CP'
  have CRP' : ∀ W : World, Grows W4 W → Calls Try.prog 12 #[.agg #[.int .i64 (kk : Int), .int .i64 0, .slice A N c], .int .u64 (n0 : Int), .int .u64 (n1 : Int)] W fun e w' => e = .returned (.tuple #[.int .u64 (s : Int), .int .u64 (y : Int)]) ∧ Below W.heap.size W w' := by
    intro W hW
    have := rparts_any (kk : Int) 0 L (by have := HMD.out.len; omega) (fun i => by have := HMD.out.lev i; omega) (by have := HMD.out.small; omega) n0 n1 (by omega) W A c (by rw [HN.out]; exact HL4.out.grow hW)
    rw [hs, hy, HN.out] at this
    exact this
  have CRP := Lib.hid CRP'
  clear CRP'
  have CO' : ∀ W : World, Grows W4 W → Calls Try.prog 13 #[.agg #[.int .i64 (kk : Int), .int .i64 0, .slice A N c], .int .u64 (n0 : Int), .int .u64 (n1 : Int)] W fun e w' => e = .returned (.int .u64 (es : Int)) ∧ Below W.heap.size W w' := by
    intro W hW
    have := of_any (kk : Int) 0 L (by have := HMD.out.len; omega) (fun i => by have := HMD.out.lev i; omega) (by have := HMD.out.small; omega) n0 n1 (by omega) W A c (by rw [HN.out]; exact HL4.out.grow hW)
    rw [hes, HN.out] at this
    exact this
  have CO := Lib.hid CO'
  clear CO'
  have CRO' : ∀ W : World, Grows W4 W → Calls Try.prog 14 #[.agg #[.int .i64 (kk : Int), .int .i64 0, .slice A N c], .int .u64 (n0 : Int), .int .u64 (n1 : Int)] W fun e w' => e = .returned (.int .u64 (es : Int)) ∧ Below W.heap.size W w' := by
    intro W hW
    have := rof_any (kk : Int) 0 L (by have := HMD.out.len; omega) (fun i => by have := HMD.out.lev i; omega) (by have := HMD.out.small; omega) n0 n1 (by omega) W A c (by rw [HN.out]; exact HL4.out.grow hW)
    rw [hes, HN.out] at this
    exact this
  have CRO := Lib.hid CRO'
  clear CRO'
  clear hs hy hes
  refine region_facts0 (fr := ?frA) 7 [18, 19, 20, 21, 22, 23, 24] (fun i v W => match i with
      | 0 => v = .agg #[.int .i64 (kk : Int), .int .i64 0, .slice A N c]
      | 1 => v = .agg #[.int .i64 (kk : Int), .int .i64 0, .slice A N c]
      | 2 => v = .pointer (some ⟨bX, 0, none⟩)
      | 3 => v = .int .u64 (n0 : Int)
      | 4 => v = .pointer (some ⟨bX, 1, none⟩)
      | 5 => v = .int .u64 (n1 : Int)
      | 6 => v = .tuple #[.int .u64 (s : Int), .int .u64 (y : Int)]
      | _ => True) rfl ?hBA (by kernel_rfl) (by kernel_rfl) (by kernel_rfl) ?hfrA ?hFA ?hopA ?htailA
  case hBA => kernel_rfl
  case hfrA =>
    intro us
    simp only [putL]
    go_simp
    rfl
  case hFA =>
    intro i v W W' hG h
    match i with
    | 0 => exact h
    | 1 => exact h
    | 2 => exact h
    | 3 => exact h
    | 4 => exact h
    | 5 => exact h
    | 6 => exact h
    | n + 7 => trivial
  case hopA =>
    intro i hi us W2 hG hd
    match i, hi with
    | 0, _ =>
      clear hd
      have q0 := (hG.cell (b := bH) (o := 0) LH.out).trans Y0.out
      have q0l := Nat.lt_of_lt_of_le LH.out hG.size
      have q1 := (hG.cell (b := bH) (o := 1) LH.out).trans Y1.out
      have q1l := Nat.lt_of_lt_of_le LH.out hG.size
      have q2 := (hG.cell (b := bH) (o := 2) LH.out).trans Y2.out
      have q2l := Nat.lt_of_lt_of_le LH.out hG.size
      exact hop_value rfl rfl rfl (v := .agg #[.int .i64 (kk : Int), .int .i64 0, .slice A N c]) (W' := W2) (by go_simp) (Grows.refl _) rfl
    | 1, _ =>
      have h0 : us 0 = .agg #[.int .i64 (kk : Int), .int .i64 0, .slice A N c] := hd 0 (by omega) (by kernel_rfl)
      clear hd
      refine hop_call rfl rfl rfl (f := 11) (args := #[.agg #[.int .i64 (kk : Int), .int .i64 0, .slice A N c]]) (by go_simp) ?_
      refine (lmade_any _ _ _ _ _ W2).mono ?_
      rintro e W' ⟨rfl, hb⟩
      exact ⟨_, rfl, hb, rfl⟩
    | 2, _ =>
      clear hd
      exact hop_value rfl rfl rfl (v := .pointer (some ⟨bX, 0, none⟩)) (W' := W2) (by go_simp) (Grows.refl _) rfl
    | 3, _ =>
      have h2 : us 2 = .pointer (some ⟨bX, 0, none⟩) := hd 2 (by omega) (by kernel_rfl)
      clear hd
      have q := (hG.cell (b := bX) (o := 0) LX.out).trans X0.out
      have ql := Nat.lt_of_lt_of_le LX.out hG.size
      exact hop_value rfl rfl rfl (v := .int .u64 (n0 : Int)) (W' := W2) (by go_simp) (Grows.refl _) rfl
    | 4, _ =>
      clear hd
      exact hop_value rfl rfl rfl (v := .pointer (some ⟨bX, 1, none⟩)) (W' := W2) (by go_simp) (Grows.refl _) rfl
    | 5, _ =>
      have h4 : us 4 = .pointer (some ⟨bX, 1, none⟩) := hd 4 (by omega) (by kernel_rfl)
      clear hd
      have q := (hG.cell (b := bX) (o := 1) LX.out).trans X1.out
      have ql := Nat.lt_of_lt_of_le LX.out hG.size
      exact hop_value rfl rfl rfl (v := .int .u64 (n1 : Int)) (W' := W2) (by go_simp) (Grows.refl _) rfl
    | 6, _ =>
      have h1 : us 1 = .agg #[.int .i64 (kk : Int), .int .i64 0, .slice A N c] := hd 1 (by omega) (by kernel_rfl)
      have h3 : us 3 = .int .u64 (n0 : Int) := hd 3 (by omega) (by kernel_rfl)
      have h5 : us 5 = .int .u64 (n1 : Int) := hd 5 (by omega) (by kernel_rfl)
      clear hd
      refine hop_call rfl rfl rfl (f := 10) (args := #[.agg #[.int .i64 (kk : Int), .int .i64 0, .slice A N c], .int .u64 (n0 : Int), .int .u64 (n1 : Int)]) (by go_simp) ?_
      refine (CP.out W2 hG).mono ?_
      rintro e W' ⟨rfl, hb⟩
      exact ⟨_, rfl, hb, rfl⟩
    | d + 7, h => exact absurd h (by omega)
  case htailA =>
    intro us W2 hG hf
    have hz : us 6 = .tuple #[.int .u64 (s : Int), .int .u64 (y : Int)] := hf 6 (by omega)
    clear hf
    rw [hz]
    have HG2 := Lib.hid hG
    clear hz hG
    simp only [List.drop_succ_cons, List.drop_zero]
    repeat (go_big_quiet_step (fail))
    refine wpQuiet_nil ?_
    rintro w' ⟨nq, rfl⟩
    have HG5 := Lib.hid (below_drewN HG2.out nq)
    clear HG2
    generalize W2.drewN nq = w5 at *
    have tH := (HG5.out.block bH LH.out).trans PH.out
    have tX := (HG5.out.block bX LX.out).trans PX.out
    obtain ⟨y0, y1, y2⟩ := box3 tH
    have v0 : w5.cell? ⟨bX, 0, none⟩ = some (.int .u64 (n0 : Int)) := by simp [World.cell?, tX]
    have v1 : w5.cell? ⟨bX, 1, none⟩ = some (.int .u64 (n1 : Int)) := by simp [World.cell?, tX]
    have lH := lt_of tH
    have lX := lt_of tX
    go_upto_region 5 with (go_at_call 12; refine (CRP.out w5 HG5.out).mono ?_; rintro e w6 ⟨rfl, hb6⟩; have HB6 := Lib.hid hb6; clear hb6)
    have HGA := Lib.hid (thn HG5.out HB6.out)
    clear y0 y1 y2 v0 v1 lH lX tH tX
    have tH := (HGA.out.block bH LH.out).trans PH.out
    have tX := (HGA.out.block bX LX.out).trans PX.out
    obtain ⟨y0, y1, y2⟩ := box3 tH
    have v0 : w6.cell? ⟨bX, 0, none⟩ = some (.int .u64 (n0 : Int)) := by simp [World.cell?, tX]
    have v1 : w6.cell? ⟨bX, 1, none⟩ = some (.int .u64 (n1 : Int)) := by simp [World.cell?, tX]
    have lH := lt_of tH
    have lX := lt_of tX
    clear PH PX LH LX Y0 Y1 Y2 X0 X1
    have PH := Lib.hid tH
    have PX := Lib.hid tX
    have LH := Lib.hid lH
    have LX := Lib.hid lX
    have Y0 := Lib.hid y0
    have Y1 := Lib.hid y1
    have Y2 := Lib.hid y2
    have X0 := Lib.hid v0
    have X1 := Lib.hid v1
    clear tH tX y0 y1 y2 lH lX v0 v1
    refine region_facts0 (fr := ?frB) 27 [36, 37, 38, 39, 40, 41, 42, 43, 44, 45, 46, 47, 48, 49, 50, 51, 52, 53, 54, 55, 56, 57, 58, 59, 60, 61, 62] (fun i v W => match i with
        | 0 => v = .bool true
        | 1 => v = .bool true
        | 2 => v = .int .u64 (s : Int)
        | 3 => v = .int .u64 (s : Int)
        | 4 => v = .bool true
        | 5 => v = .bool true
        | 6 => v = .bool true
        | 7 => v = .int .u64 (y : Int)
        | 8 => v = .int .u64 (y : Int)
        | 9 => v = .bool true
        | 10 => v = .bool true
        | 11 => v = .bool true
        | 12 => v = .agg #[.int .i64 (kk : Int), .int .i64 0, .slice A N c]
        | 13 => v = .agg #[.int .i64 (kk : Int), .int .i64 0, .slice A N c]
        | 14 => v = .pointer (some ⟨bX, 0, none⟩)
        | 15 => v = .int .u64 (n0 : Int)
        | 16 => v = .pointer (some ⟨bX, 1, none⟩)
        | 17 => v = .int .u64 (n1 : Int)
        | 18 => v = .int .u64 (es : Int)
        | 19 => v = .agg #[.int .i64 (kk : Int), .int .i64 0, .slice A N c]
        | 20 => v = .pointer (some ⟨bX, 0, none⟩)
        | 21 => v = .int .u64 (n0 : Int)
        | 22 => v = .pointer (some ⟨bX, 1, none⟩)
        | 23 => v = .int .u64 (n1 : Int)
        | 24 => v = .int .u64 (es : Int)
        | 25 => v = .bool true
        | 26 => v = .bool true
        | _ => True) rfl ?hBB (by kernel_rfl) (by kernel_rfl) (by kernel_rfl) ?hfrB ?hFB ?hopB ?htailB
    case hBB => kernel_rfl
    case hfrB =>
      intro us
      simp only [putL]
      go_simp
      rfl
    case hFB =>
      intro i v W W' hG h
      match i with
      | 0 => exact h
      | 1 => exact h
      | 2 => exact h
      | 3 => exact h
      | 4 => exact h
      | 5 => exact h
      | 6 => exact h
      | 7 => exact h
      | 8 => exact h
      | 9 => exact h
      | 10 => exact h
      | 11 => exact h
      | 12 => exact h
      | 13 => exact h
      | 14 => exact h
      | 15 => exact h
      | 16 => exact h
      | 17 => exact h
      | 18 => exact h
      | 19 => exact h
      | 20 => exact h
      | 21 => exact h
      | 22 => exact h
      | 23 => exact h
      | 24 => exact h
      | 25 => exact h
      | 26 => exact h
      | n + 27 => trivial
    case hopB =>
      intro i hi us W2 hG hd
      match i, hi with
      | 0, _ =>
        clear hd
        exact hop_value rfl rfl rfl (v := .bool true) (W' := W2) (by go_simp) (Grows.refl _) rfl
      | 1, _ =>
        have h0 : us 0 = .bool true := hd 0 (by omega) (by kernel_rfl)
        clear hd
        exact hop_value rfl rfl rfl (v := .bool true) (W' := W2) (by go_simp) (Grows.refl _) rfl
      | 2, _ =>
        have h1 : us 1 = .bool true := hd 1 (by omega) (by kernel_rfl)
        clear hd
        rw [h1]
        exact hop_value rfl rfl rfl (v := .int .u64 (s : Int)) (W' := W2) (by go_simp) (Grows.refl _) rfl
      | 3, _ =>
        have h1 : us 1 = .bool true := hd 1 (by omega) (by kernel_rfl)
        clear hd
        rw [h1]
        exact hop_value rfl rfl rfl (v := .int .u64 (s : Int)) (W' := W2) (by go_simp) (Grows.refl _) rfl
      | 4, _ =>
        have h1 : us 1 = .bool true := hd 1 (by omega) (by kernel_rfl)
        have h2 : us 2 = .int .u64 (s : Int) := hd 2 (by omega) (by kernel_rfl)
        have h3 : us 3 = .int .u64 (s : Int) := hd 3 (by omega) (by kernel_rfl)
        clear hd
        rw [h1]
        exact hop_value rfl rfl rfl (v := .bool true) (W' := W2) (by go_simp) (Grows.refl _) rfl
      | 5, _ =>
        have h1 : us 1 = .bool true := hd 1 (by omega) (by kernel_rfl)
        have h4 : us 4 = .bool true := hd 4 (by omega) (by kernel_rfl)
        clear hd
        exact hop_value rfl rfl rfl (v := .bool true) (W' := W2) (by go_simp) (Grows.refl _) rfl
      | 6, _ =>
        have h5 : us 5 = .bool true := hd 5 (by omega) (by kernel_rfl)
        clear hd
        exact hop_value rfl rfl rfl (v := .bool true) (W' := W2) (by go_simp) (Grows.refl _) rfl
      | 7, _ =>
        have h6 : us 6 = .bool true := hd 6 (by omega) (by kernel_rfl)
        clear hd
        rw [h6]
        exact hop_value rfl rfl rfl (v := .int .u64 (y : Int)) (W' := W2) (by go_simp) (Grows.refl _) rfl
      | 8, _ =>
        have h6 : us 6 = .bool true := hd 6 (by omega) (by kernel_rfl)
        clear hd
        rw [h6]
        exact hop_value rfl rfl rfl (v := .int .u64 (y : Int)) (W' := W2) (by go_simp) (Grows.refl _) rfl
      | 9, _ =>
        have h6 : us 6 = .bool true := hd 6 (by omega) (by kernel_rfl)
        have h7 : us 7 = .int .u64 (y : Int) := hd 7 (by omega) (by kernel_rfl)
        have h8 : us 8 = .int .u64 (y : Int) := hd 8 (by omega) (by kernel_rfl)
        clear hd
        rw [h6]
        exact hop_value rfl rfl rfl (v := .bool true) (W' := W2) (by go_simp) (Grows.refl _) rfl
      | 10, _ =>
        have h6 : us 6 = .bool true := hd 6 (by omega) (by kernel_rfl)
        have h9 : us 9 = .bool true := hd 9 (by omega) (by kernel_rfl)
        clear hd
        exact hop_value rfl rfl rfl (v := .bool true) (W' := W2) (by go_simp) (Grows.refl _) rfl
      | 11, _ =>
        have h10 : us 10 = .bool true := hd 10 (by omega) (by kernel_rfl)
        clear hd
        exact hop_value rfl rfl rfl (v := .bool true) (W' := W2) (by go_simp) (Grows.refl _) rfl
      | 12, _ =>
        have h11 : us 11 = .bool true := hd 11 (by omega) (by kernel_rfl)
        clear hd
        rw [h11]
        have q0 := (hG.cell (b := bH) (o := 0) LH.out).trans Y0.out
        have q0l := Nat.lt_of_lt_of_le LH.out hG.size
        have q1 := (hG.cell (b := bH) (o := 1) LH.out).trans Y1.out
        have q1l := Nat.lt_of_lt_of_le LH.out hG.size
        have q2 := (hG.cell (b := bH) (o := 2) LH.out).trans Y2.out
        have q2l := Nat.lt_of_lt_of_le LH.out hG.size
        exact hop_value rfl rfl rfl (v := .agg #[.int .i64 (kk : Int), .int .i64 0, .slice A N c]) (W' := W2) (by go_simp) (Grows.refl _) rfl
      | 13, _ =>
        have h11 : us 11 = .bool true := hd 11 (by omega) (by kernel_rfl)
        have h12 : us 12 = .agg #[.int .i64 (kk : Int), .int .i64 0, .slice A N c] := hd 12 (by omega) (by kernel_rfl)
        clear hd
        rw [h11]
        refine hop_call rfl rfl rfl (f := 11) (args := #[.agg #[.int .i64 (kk : Int), .int .i64 0, .slice A N c]]) (by go_simp) ?_
        refine (lmade_any _ _ _ _ _ W2).mono ?_
        rintro e W' ⟨rfl, hb⟩
        exact ⟨_, rfl, hb, rfl⟩
      | 14, _ =>
        have h11 : us 11 = .bool true := hd 11 (by omega) (by kernel_rfl)
        clear hd
        rw [h11]
        exact hop_value rfl rfl rfl (v := .pointer (some ⟨bX, 0, none⟩)) (W' := W2) (by go_simp) (Grows.refl _) rfl
      | 15, _ =>
        have h11 : us 11 = .bool true := hd 11 (by omega) (by kernel_rfl)
        have h14 : us 14 = .pointer (some ⟨bX, 0, none⟩) := hd 14 (by omega) (by kernel_rfl)
        clear hd
        rw [h11]
        have q := (hG.cell (b := bX) (o := 0) LX.out).trans X0.out
        have ql := Nat.lt_of_lt_of_le LX.out hG.size
        exact hop_value rfl rfl rfl (v := .int .u64 (n0 : Int)) (W' := W2) (by go_simp) (Grows.refl _) rfl
      | 16, _ =>
        have h11 : us 11 = .bool true := hd 11 (by omega) (by kernel_rfl)
        clear hd
        rw [h11]
        exact hop_value rfl rfl rfl (v := .pointer (some ⟨bX, 1, none⟩)) (W' := W2) (by go_simp) (Grows.refl _) rfl
      | 17, _ =>
        have h11 : us 11 = .bool true := hd 11 (by omega) (by kernel_rfl)
        have h16 : us 16 = .pointer (some ⟨bX, 1, none⟩) := hd 16 (by omega) (by kernel_rfl)
        clear hd
        rw [h11]
        have q := (hG.cell (b := bX) (o := 1) LX.out).trans X1.out
        have ql := Nat.lt_of_lt_of_le LX.out hG.size
        exact hop_value rfl rfl rfl (v := .int .u64 (n1 : Int)) (W' := W2) (by go_simp) (Grows.refl _) rfl
      | 18, _ =>
        have h11 : us 11 = .bool true := hd 11 (by omega) (by kernel_rfl)
        have h13 : us 13 = .agg #[.int .i64 (kk : Int), .int .i64 0, .slice A N c] := hd 13 (by omega) (by kernel_rfl)
        have h15 : us 15 = .int .u64 (n0 : Int) := hd 15 (by omega) (by kernel_rfl)
        have h17 : us 17 = .int .u64 (n1 : Int) := hd 17 (by omega) (by kernel_rfl)
        clear hd
        rw [h11]
        refine hop_call rfl rfl rfl (f := 13) (args := #[.agg #[.int .i64 (kk : Int), .int .i64 0, .slice A N c], .int .u64 (n0 : Int), .int .u64 (n1 : Int)]) (by go_simp) ?_
        refine (CO.out W2 (thn HGA.out hG)).mono ?_
        rintro e W' ⟨rfl, hb⟩
        exact ⟨_, rfl, hb, rfl⟩
      | 19, _ =>
        have h11 : us 11 = .bool true := hd 11 (by omega) (by kernel_rfl)
        clear hd
        rw [h11]
        have q0 := (hG.cell (b := bH) (o := 0) LH.out).trans Y0.out
        have q0l := Nat.lt_of_lt_of_le LH.out hG.size
        have q1 := (hG.cell (b := bH) (o := 1) LH.out).trans Y1.out
        have q1l := Nat.lt_of_lt_of_le LH.out hG.size
        have q2 := (hG.cell (b := bH) (o := 2) LH.out).trans Y2.out
        have q2l := Nat.lt_of_lt_of_le LH.out hG.size
        exact hop_value rfl rfl rfl (v := .agg #[.int .i64 (kk : Int), .int .i64 0, .slice A N c]) (W' := W2) (by go_simp) (Grows.refl _) rfl
      | 20, _ =>
        have h11 : us 11 = .bool true := hd 11 (by omega) (by kernel_rfl)
        clear hd
        rw [h11]
        exact hop_value rfl rfl rfl (v := .pointer (some ⟨bX, 0, none⟩)) (W' := W2) (by go_simp) (Grows.refl _) rfl
      | 21, _ =>
        have h11 : us 11 = .bool true := hd 11 (by omega) (by kernel_rfl)
        have h20 : us 20 = .pointer (some ⟨bX, 0, none⟩) := hd 20 (by omega) (by kernel_rfl)
        clear hd
        rw [h11]
        have q := (hG.cell (b := bX) (o := 0) LX.out).trans X0.out
        have ql := Nat.lt_of_lt_of_le LX.out hG.size
        exact hop_value rfl rfl rfl (v := .int .u64 (n0 : Int)) (W' := W2) (by go_simp) (Grows.refl _) rfl
      | 22, _ =>
        have h11 : us 11 = .bool true := hd 11 (by omega) (by kernel_rfl)
        clear hd
        rw [h11]
        exact hop_value rfl rfl rfl (v := .pointer (some ⟨bX, 1, none⟩)) (W' := W2) (by go_simp) (Grows.refl _) rfl
      | 23, _ =>
        have h11 : us 11 = .bool true := hd 11 (by omega) (by kernel_rfl)
        have h22 : us 22 = .pointer (some ⟨bX, 1, none⟩) := hd 22 (by omega) (by kernel_rfl)
        clear hd
        rw [h11]
        have q := (hG.cell (b := bX) (o := 1) LX.out).trans X1.out
        have ql := Nat.lt_of_lt_of_le LX.out hG.size
        exact hop_value rfl rfl rfl (v := .int .u64 (n1 : Int)) (W' := W2) (by go_simp) (Grows.refl _) rfl
      | 24, _ =>
        have h11 : us 11 = .bool true := hd 11 (by omega) (by kernel_rfl)
        have h19 : us 19 = .agg #[.int .i64 (kk : Int), .int .i64 0, .slice A N c] := hd 19 (by omega) (by kernel_rfl)
        have h21 : us 21 = .int .u64 (n0 : Int) := hd 21 (by omega) (by kernel_rfl)
        have h23 : us 23 = .int .u64 (n1 : Int) := hd 23 (by omega) (by kernel_rfl)
        clear hd
        rw [h11]
        refine hop_call rfl rfl rfl (f := 14) (args := #[.agg #[.int .i64 (kk : Int), .int .i64 0, .slice A N c], .int .u64 (n0 : Int), .int .u64 (n1 : Int)]) (by go_simp) ?_
        refine (CRO.out W2 (thn HGA.out hG)).mono ?_
        rintro e W' ⟨rfl, hb⟩
        exact ⟨_, rfl, hb, rfl⟩
      | 25, _ =>
        have h11 : us 11 = .bool true := hd 11 (by omega) (by kernel_rfl)
        have h18 : us 18 = .int .u64 (es : Int) := hd 18 (by omega) (by kernel_rfl)
        have h24 : us 24 = .int .u64 (es : Int) := hd 24 (by omega) (by kernel_rfl)
        clear hd
        rw [h11]
        exact hop_value rfl rfl rfl (v := .bool true) (W' := W2) (by go_simp) (Grows.refl _) rfl
      | 26, _ =>
        have h11 : us 11 = .bool true := hd 11 (by omega) (by kernel_rfl)
        have h25 : us 25 = .bool true := hd 25 (by omega) (by kernel_rfl)
        clear hd
        exact hop_value rfl rfl rfl (v := .bool true) (W' := W2) (by go_simp) (Grows.refl _) rfl
      | d + 27, h => exact absurd h (by omega)
    case htailB =>
      intro us W2 hG hf
      have hz : us 26 = .bool true := hf 26 (by omega)
      clear hf
      rw [hz]
      have HG2 := Lib.hid hG
      clear hz hG
      simp only [List.drop_succ_cons, List.drop_zero]
      repeat (go_big_quiet_step (fail))
      refine wpQuiet_nil ?_
      rintro w' ⟨nq, rfl⟩
      have HBX := Lib.hid (below_drewN HG2.out nq)
      clear HG2
      generalize W2.drewN nq = wy at *
      go_wp2
      go_ret
      exact ⟨rfl, thn (thn HB4.out HGA.out) HBX.out⟩

set_option maxRecDepth 100000 in
theorem lifted (os : Os) (started : os.Started) (H : Type) (enc : TypeId × Value → H) :
    ReturnsInHanded {} Try.checked os 3 .any (Rows.estimateTellsSpec.pre6 enc Try.prog Try.f3 Rows.estimateTellsRow.domain false) (Rows.estimateTellsSpec.post enc Try.prog Try.f3 false true false false) := by
  refine returnsInHanded_of_change (C := Try.checked) own started (by kernel_rfl) Try.func3
    (ChangeSpec.witness6 (enc := enc) (C := Try.checked) false ⟨#[], #[.int .i64 0, .slice none 0 0, .agg #[.int .u64 0, .int .u64 0]], []⟩ 8 (by kernel_rfl) (by kernel_rfl) (by kernel_rfl) (by kernel_rfl)) ?_
  intro W base args ds gs before hval0 hW hcnd _
  have hval : ∀ (j : Nat) t v, Try.f3.params[j]? = some t → args[j]? = some v → Value.okWide Try.prog W .any base t v := hval0
  have hW' := hW
  obtain ⟨p, q, hA0, hV, rfl, hfz, hnd⟩ := hW
  have hA : DataW.TrodAll enc Try.prog W 0 (fun _ => true) true Try.f3.params.toList args.toList ds p := hA0
  rw [Try.params3] at hA hval
  obtain ⟨v0, vs0, d0, ds0, p0, q0, hargs, rfl, rfl, h0, r0⟩ := trodAll_cons hA
  obtain ⟨v1, vs1, d1, ds1, p1, q1, rfl, rfl, rfl, h1, r1⟩ := trodAll_cons r0
  obtain ⟨v2, vs2, d2, ds2, p2, q2, rfl, rfl, rfl, h2, r2⟩ := trodAll_cons r1
  obtain ⟨rfl, rfl, rfl⟩ := trodAll_nil r2
  obtain rfl : args = #[v0, v1, v2] := by cases args; simp_all
  obtain ⟨rfl, rfl⟩ := trodVars_none hV
  obtain ⟨a0, rfl, rfl, rfl, w0⟩ := open_int Try.underlying3 (hval 0 3 v0 rfl rfl) h0
  obtain ⟨a1, len1, cap1, rfl⟩ := okWide_slice Try.underlying22 (hval 1 22 v1 rfl rfl)
  have k1 := h1
  have lt1 : ∀ x ∈ p1, x.block < W.heap.size := by obtain ⟨m, hm⟩ := k1; exact DataW.trod_lt m _ _ _ hm
  obtain ⟨z1, w1⟩ := Op.open_flats (f := 9) (ks := [.u64, .u64]) Try.underlying22 (by kernel_rfl) (by kernel_rfl) (by decide) h1
  have k2 := h2
  have lt2 : ∀ x ∈ p2, x.block < W.heap.size := by obtain ⟨m, hm⟩ := k2; exact DataW.trod_lt m _ _ _ hm
  obtain ⟨c2, rfl, fit2⟩ := Op.open_flat (f := 9) (ks := [.u64, .u64]) (by kernel_rfl) (by kernel_rfl) (hval 2 24 v2 rfl rfl) h2
  obtain ⟨a2_0, a2_1, rfl, w2_0, w2_1⟩ := fit2_of fit2
  clear hA0 hval0
  refine (walk a0 a1 len1 cap1 z1 a2_0 a2_1 W w0 w1 w2_0 w2_1).mono fun e W' ⟨he, bel⟩ => ?_
  subst he
  exact ⟨_, rfl, _, _, _, [], _, [], hW', trodAll_mk1 (shut_bool Try.underlying4 _), (trodAll_cons_mk (shut_int Try.underlying3 w0) (trodAll_cons_mk (Below.trod laidOut (by kernel_rfl) (of_decide_eq_true (by kernel_rfl)) k1 bel lt1) (trodAll_cons_mk (Below.trod laidOut (by kernel_rfl) (of_decide_eq_true (by kernel_rfl)) k2 bel lt2) trodAll_mk0))), rfl, bel.frame _, fun h => by cases h⟩

theorem over : Rows.estimateTellsRow.holds Try.pinned (OpenSpec.ofChange Rows.estimateTellsSpec) :=
  OpenClaim.holds_of_wide 3 Try.f3 rfl rfl rfl rfl rfl rfl rfl ⟨rfl, rfl, rfl, rfl, rfl⟩ rfl rfl rfl rfl rfl (by kernel_rfl) Try.func3 (by kernel_rfl)
    (of_decide_eq_true (by kernel_rfl)) (by unfold Func.isWrapper; first | (rw [if_pos (by decide +kernel)]; kernel_rfl) | (rw [if_neg (by decide +kernel)]; exact ⟨rfl, rfl⟩))
    (fun os started H enc _ => lifted os started H enc)

/-- The statement. -/
theorem proved : Rows.EstimateTellsSaid := over
#print axioms proved
end Go.Proofs.Ythmbmiikhghaoaa.estimateTells
