/-
  'skylight/skylightlaw06.HistPlays' returns true for every input, and the input reads afterwards as it read before. Conditions: none.
-/
import Derived.Test.YtimlmaincblkoaaRows
import Derived.WalkKit
import Derived.ProofKit
import Derived.OpenShut
import Derived.ShutString
import Derived.ChangeOld
import Derived.Below
import Derived.Test.YtimlmaincblkoaaOpen
import Derived.Test.YtimlmaincblkoaaHPlayed
import Derived.Test.YtimlmaincblkoaaHAwk
namespace Go.Proofs.Ytimlmaincblkoaa.histPlays
open Go.Proofs Go.Proofs.Rn Go.Proofs.Lm Go.Proofs.Op Go.Proofs.Rw Go.Proofs.Lh Go.Proofs.Rf
open Go.ChangeShapes Go.WideShapes Go.ChangeAt Go.RowKit
open Go.ChangeMaps (open_string shut_string)
set_option linter.unusedVariables false

theorem own : ownKnob Try.prog.godebug = none := by kernel_rfl
theorem laidOut : laidOutB Try.prog = true := by kernel_rfl

/-- A slice of integers that came in: nil, or a row of cells of its capacity, each fitting its kind. -/
def IsRow (k : IntKind) (w : World) (a : Option Addr) (len cap : Nat) (zs : List Int) : Prop :=
  (a = none ∧ len = 0 ∧ cap = 0 ∧ zs = []) ∨
  ∃ x, a = some x ∧ len ≤ cap ∧ cap ≤ maxLen ∧ zs.length = cap ∧ (∀ i, i < zs.length → w.cell? (x.add i) = some (.int k (zs.getD i 0))) ∧ ∀ n ∈ zs, (Lit.int k n).wf = true

open Go.RowKit Go.Shelf Go.Proofs.Rw Go.Proofs.Lh Go.Proofs.Rf

set_option maxRecDepth 100000 in
set_option maxHeartbeats 4000000 in
theorem walk (a0 : Int) (a1 : Option Addr) (len1 cap1 : Nat) (z1 : Nat → Nat → Int) (w : World) (w0 : (Lit.int .i64 a0).wf = true) (w1 : Op.FlatRow [.u64, .u64] w a1 len1 cap1 z1) :
    Calls Try.prog 3 #[.int .i64 a0, .slice a1 len1 cap1] w fun e w' => e = .returned (.bool true) ∧ Below w.heap.size w w' := by
  obtain ⟨ds, hdl1, hdL1, hdB1⟩ := sp_of_row w1
  have hD1 : Deeds w a1 len1 cap1 ds := ⟨hdl1, hdL1, hdB1⟩
  obtain ⟨b00, b01⟩ := bounds_i64 w0
  have hk := kOf_le a0
  have hdn : doneN ds ≤ ds.length := by unfold doneN; omega
  have hmd : Made (kOf a0) (play (kOf a0) ds (doneN ds)).2 := play_made hk.1 (by omega) ds _ hdn
  have hplay := fun (W : World) (hW : Below w.heap.size w W) => played_any a0 b00 (by omega) ds W a1 len1 cap1 (hD1.grow hW)
  have hlk := play_last (kOf a0) hk.1 (by omega) ds (doneN ds) hdn
  have htk := play_tick (kOf a0) ds (doneN ds) hdn
  obtain ⟨kk, hkk⟩ : ∃ x, kOf a0 = x := ⟨_, rfl⟩
  rw [hkk] at hk hmd hlk htk
  simp only [hkk] at hplay
  obtain ⟨TK, hTK⟩ : ∃ x, (play kk ds (doneN ds)).1 = x := ⟨_, rfl⟩
  rw [hTK] at hlk htk
  obtain ⟨L, hL⟩ : ∃ x, (play kk ds (doneN ds)).2 = x := ⟨_, rfl⟩
  rw [hL] at hmd hlk
  simp only [hL] at hplay
  obtain ⟨N, hN⟩ : ∃ x, L.length = x := ⟨_, rfl⟩
  simp only [hN] at hplay
  have hN53 : N ≤ 53 := by have := hmd.len; omega
  have hlev : ∀ i, (lev L i).length ≤ 1026 := hmd.lev
  have htot : tot L ≤ 4503599627370496 := hmd.small
  have HP := Lib.hid hplay
  have HMD := Lib.hid hmd
  have HLEV := Lib.hid hlev
  have HN := Lib.hid hN
  have HDE := Lib.hid hD1
  have HLK := Lib.hid hlk
  have hTKl : TK ≤ 30000 := by have : doneN ds ≤ 30 := by unfold doneN; omega
                               omega
  clear hplay hmd hlev hN hD1 hdl1 hdL1 hdB1 hkk hTK hL w0 w1 hdn hlk htk
  go_enter Try.func3, Try.ntmps3
  go_upto_region 3 with (first
    | (go_at_call 9; refine (awake_any _).mono ?_; rintro e wa ⟨rfl, ha⟩; have HWA := Lib.hid (id ha); clear ha)
    | (go_at_call 10; refine (HP.out _ HWA.out).mono ?_; rintro e w3 ⟨A, c, A2, c2, rfl, hLa, hLb, hb3⟩; have HLA := Lib.hid hLa; have HLB := Lib.hid hLb; have HB3 := Lib.hid (thn HWA.out hb3); clear hLa hLb hb3))
  obtain ⟨W4, hW4, hsz4, p0, p1, hB4⟩ := heap_two w3 (.cells #[.int .i64 (kk : Int), .int .i64 0, .slice A N c] 26) (.cells #[.int .i64 (kk : Int), .int .i64 0, .slice A2 N c2] 27)
  rw [← hW4]
  have HLA4 := Lib.hid (HLA.out.grow hB4)
  have HLB4 := Lib.hid (HLB.out.grow hB4)
  have HB4 := Lib.hid (thn HB3.out hB4)
  have P0 := Lib.hid p0
  have P1 := Lib.hid p1
  obtain ⟨q0, q1, q2⟩ := box3 p0
  obtain ⟨r0, r1, r2⟩ := box3 p1
  have l0 := lt_of p0
  have l1 := lt_of p1
  clear hW4 hB4 p0 p1 HLA HLB HB3 HP
  have hla := last_any (kk : Int) 0 L W4 W4.heap.size (Nat.le_refl _) A c (by rw [HN.out]; exact HLA4.out) (by have := HLEV.out 0; omega)
  have hlb := fun (W : World) (hW : Below W4.heap.size W4 W) => rlast_any (kk : Int) 0 L W A2 c2 (by rw [HN.out]; exact HLB4.out.grow hW) (by have := HLEV.out 0; omega)
  have ht1 := fun (W : World) (hW : Below W4.heap.size W4 W) => total_any (kk : Int) 0 L (by rw [HN.out]; omega) (by omega) W A c (by rw [HN.out]; exact HLA4.out.grow hW)
  have ht2 := fun (W : World) (hW : Below W4.heap.size W4 W) => rtotal_any (kk : Int) 0 L (by rw [HN.out]; omega) (by omega) W A2 c2 (by rw [HN.out]; exact HLB4.out.grow hW)
  have hsm : ∀ (W : World), Below W4.heap.size W4 W → Calls Try.prog 13 #[hv kk 0 (.slice A N c), hv kk 0 (.slice A2 N c2)] W fun e w' => e = .returned (.bool true) ∧ Below W.heap.size W w' := by
    intro W hW
    have := lsame_any (kk : Int) 0 (kk : Int) 0 L L (by rw [HN.out]; omega) (fun i => by have := HLEV.out i; omega) W A A2 c c2 (by rw [HN.out]; exact HLA4.out.grow hW) (by rw [HN.out]; exact HLB4.out.grow hW)
    rw [show sameB (kk : Int) 0 (kk : Int) 0 L L = true by simp [sameB], HN.out] at this
    exact this
  obtain ⟨lv, hlv⟩ : ∃ x, (lastOf L).getD 0 = x := ⟨_, rfl⟩
  obtain ⟨lb, hlbb⟩ : ∃ x, (lastOf L).isSome = x := ⟨_, rfl⟩
  obtain ⟨T, hT⟩ : ∃ x, tot L = x := ⟨_, rfl⟩
  unfold lastV at hla hlb
  simp only [hlv, hlbb, HN.out] at hla hlb
  simp only [hT, HN.out] at ht1 ht2
  have HLL := Lib.hid hla
  have HLR := Lib.hid hlb
  clear hla hlb hlv hlbb hT htot
  go_upto_region 4 with (go_at_call 11; refine HLL.out.mono ?_; rintro e w5 ⟨rfl, hb5⟩; have HB5 := Lib.hid hb5; have t1 := (hb5.block _ l1).trans P1.out; obtain ⟨u0, u1, u2⟩ := box3 t1; have l15 := lt_of t1; clear hb5 t1)
  go_upto_region 5 with (go_at_call 12; refine (HLR.out _ HB5.out).mono ?_; rintro e w6 ⟨rfl, hb6⟩; have HB56 := Lib.hid (thn HB5.out hb6); clear hb6)
  have t0 := (HB56.out.block _ l0).trans P0.out
  have t1 := (HB56.out.block _ l1).trans P1.out
  obtain ⟨a0', a1', a2'⟩ := box3 t0
  obtain ⟨b0', b1', b2'⟩ := box3 t1
  have A0 := Lib.hid a0'
  have A1 := Lib.hid a1'
  have A2' := Lib.hid a2'
  have B0 := Lib.hid b0'
  have B1 := Lib.hid b1'
  have B2 := Lib.hid b2'
  have LA := Lib.hid (lt_of t0)
  have LB := Lib.hid (lt_of t1)
  have HSM := Lib.hid (fun W (hW : Grows w6 W) => hsm W (thn HB56.out hW))
  have HT1 := Lib.hid (fun W (hW : Grows w6 W) => ht1 W (thn HB56.out hW))
  have HT2 := Lib.hid (fun W (hW : Grows w6 W) => ht2 W (thn HB56.out hW))
  have HB6 := Lib.hid (thn HB4.out HB56.out)
  clear t0 t1 a0' a1' a2' b0' b1' b2' hsm ht1 ht2 q0 q1 q2 r0 r1 r2 u0 u1 u2 l0 l1 l15
  refine region_facts0 (fr := ?frA) 26 [31, 32, 33, 34, 35, 36, 37, 38, 39, 40, 41, 42, 43, 44, 45, 46, 47, 48, 49, 50, 51, 52, 53, 54, 55, 56] (fun i v W => match i with
      | 0 => v = .bool true
      | 1 => v = .bool true
      | 2 => v = .bool true
      | 3 => v = .bool true
      | 4 => v = .bool true
      | 5 => v = .agg #[.int .i64 (kk : Int), .int .i64 0, .slice A N c]
      | 6 => v = .agg #[.int .i64 (kk : Int), .int .i64 0, .slice A2 N c2]
      | 7 => v = .bool true
      | 8 => v = .bool true
      | 9 => v = .bool true
      | 10 => v = .agg #[.int .i64 (kk : Int), .int .i64 0, .slice A N c]
      | 11 => v = .int .u64 (T : Int)
      | 12 => v = .agg #[.int .i64 (kk : Int), .int .i64 0, .slice A2 N c2]
      | 13 => v = .int .u64 (T : Int)
      | 14 => v = .bool true
      | 15 => v = .bool true
      | 16 => v = .bool true
      | 17 => v = .int .u64 (lv : Int)
      | 18 => v = .int .u64 (lv : Int)
      | 19 => v = .bool true
      | 20 => v = .bool true
      | 21 => v = .bool true
      | 22 => v = .bool lb
      | 23 => v = .bool lb
      | 24 => v = .bool true
      | 25 => v = .bool true
      | _ => True) rfl ?hBA (by kernel_rfl) (by kernel_rfl) (by kernel_rfl) ?hfrA ?hFA ?hopA ?htailA
  case hBA => kernel_rfl
  case hfrA =>
    intro us
    simp only [putL]
    go_simp
    rfl
  case hFA =>
    intro i v W W' hG h
    match i with
    | 0 => exact h
    | 1 => exact h
    | 2 => exact h
    | 3 => exact h
    | 4 => exact h
    | 5 => exact h
    | 6 => exact h
    | 7 => exact h
    | 8 => exact h
    | 9 => exact h
    | 10 => exact h
    | 11 => exact h
    | 12 => exact h
    | 13 => exact h
    | 14 => exact h
    | 15 => exact h
    | 16 => exact h
    | 17 => exact h
    | 18 => exact h
    | 19 => exact h
    | 20 => exact h
    | 21 => exact h
    | 22 => exact h
    | 23 => exact h
    | 24 => exact h
    | 25 => exact h
    | n + 26 => trivial
  case hopA =>
    intro i hi us W2 hG hd
    match i, hi with
    | 0, _ =>
      clear hd
      exact hop_value rfl rfl rfl (v := .bool true) (W' := W2) (by go_simp) (Grows.refl _) rfl
    | 1, _ =>
      have h0 : us 0 = .bool true := hd 0 (by omega) (by kernel_rfl)
      clear hd
      exact hop_value rfl rfl rfl (v := .bool true) (W' := W2) (by go_simp) (Grows.refl _) rfl
    | 2, _ =>
      have h1 : us 1 = .bool true := hd 1 (by omega) (by kernel_rfl)
      clear hd
      rw [h1]
      exact hop_value rfl rfl rfl (v := .bool true) (W' := W2) (by go_simp) (Grows.refl _) rfl
    | 3, _ =>
      have h1 : us 1 = .bool true := hd 1 (by omega) (by kernel_rfl)
      have h2 : us 2 = .bool true := hd 2 (by omega) (by kernel_rfl)
      clear hd
      exact hop_value rfl rfl rfl (v := .bool true) (W' := W2) (by go_simp) (Grows.refl _) rfl
    | 4, _ =>
      have h3 : us 3 = .bool true := hd 3 (by omega) (by kernel_rfl)
      clear hd
      exact hop_value rfl rfl rfl (v := .bool true) (W' := W2) (by go_simp) (Grows.refl _) rfl
    | 5, _ =>
      have h4 : us 4 = .bool true := hd 4 (by omega) (by kernel_rfl)
      clear hd
      rw [h4]
      have q0 := (hG.cell (b := w3.heap.size) (o := 0) LA.out).trans A0.out
      have q0l := Nat.lt_of_lt_of_le LA.out hG.size
      have q1 := (hG.cell (b := w3.heap.size) (o := 1) LA.out).trans A1.out
      have q1l := Nat.lt_of_lt_of_le LA.out hG.size
      have q2 := (hG.cell (b := w3.heap.size) (o := 2) LA.out).trans A2'.out
      have q2l := Nat.lt_of_lt_of_le LA.out hG.size
      exact hop_value rfl rfl rfl (v := .agg #[.int .i64 (kk : Int), .int .i64 0, .slice A N c]) (W' := W2) (by go_simp) (Grows.refl _) rfl
    | 6, _ =>
      have h4 : us 4 = .bool true := hd 4 (by omega) (by kernel_rfl)
      clear hd
      rw [h4]
      have q0 := (hG.cell (b := w3.heap.size + 1) (o := 0) LB.out).trans B0.out
      have q0l := Nat.lt_of_lt_of_le LB.out hG.size
      have q1 := (hG.cell (b := w3.heap.size + 1) (o := 1) LB.out).trans B1.out
      have q1l := Nat.lt_of_lt_of_le LB.out hG.size
      have q2 := (hG.cell (b := w3.heap.size + 1) (o := 2) LB.out).trans B2.out
      have q2l := Nat.lt_of_lt_of_le LB.out hG.size
      exact hop_value rfl rfl rfl (v := .agg #[.int .i64 (kk : Int), .int .i64 0, .slice A2 N c2]) (W' := W2) (by go_simp) (Grows.refl _) rfl
    | 7, _ =>
      have h4 : us 4 = .bool true := hd 4 (by omega) (by kernel_rfl)
      have h5 : us 5 = .agg #[.int .i64 (kk : Int), .int .i64 0, .slice A N c] := hd 5 (by omega) (by kernel_rfl)
      have h6 : us 6 = .agg #[.int .i64 (kk : Int), .int .i64 0, .slice A2 N c2] := hd 6 (by omega) (by kernel_rfl)
      clear hd
      rw [h4]
      refine hop_call rfl rfl rfl (f := 13) (args := #[.agg #[.int .i64 (kk : Int), .int .i64 0, .slice A N c], .agg #[.int .i64 (kk : Int), .int .i64 0, .slice A2 N c2]]) (by go_simp) ?_
      refine (HSM.out W2 hG).mono ?_
      rintro e W' ⟨rfl, hb⟩
      exact ⟨_, rfl, hb, rfl⟩
    | 8, _ =>
      have h4 : us 4 = .bool true := hd 4 (by omega) (by kernel_rfl)
      have h7 : us 7 = .bool true := hd 7 (by omega) (by kernel_rfl)
      clear hd
      exact hop_value rfl rfl rfl (v := .bool true) (W' := W2) (by go_simp) (Grows.refl _) rfl
    | 9, _ =>
      have h8 : us 8 = .bool true := hd 8 (by omega) (by kernel_rfl)
      clear hd
      exact hop_value rfl rfl rfl (v := .bool true) (W' := W2) (by go_simp) (Grows.refl _) rfl
    | 10, _ =>
      have h9 : us 9 = .bool true := hd 9 (by omega) (by kernel_rfl)
      clear hd
      rw [h9]
      have q0 := (hG.cell (b := w3.heap.size) (o := 0) LA.out).trans A0.out
      have q0l := Nat.lt_of_lt_of_le LA.out hG.size
      have q1 := (hG.cell (b := w3.heap.size) (o := 1) LA.out).trans A1.out
      have q1l := Nat.lt_of_lt_of_le LA.out hG.size
      have q2 := (hG.cell (b := w3.heap.size) (o := 2) LA.out).trans A2'.out
      have q2l := Nat.lt_of_lt_of_le LA.out hG.size
      exact hop_value rfl rfl rfl (v := .agg #[.int .i64 (kk : Int), .int .i64 0, .slice A N c]) (W' := W2) (by go_simp) (Grows.refl _) rfl
    | 11, _ =>
      have h9 : us 9 = .bool true := hd 9 (by omega) (by kernel_rfl)
      have h10 : us 10 = .agg #[.int .i64 (kk : Int), .int .i64 0, .slice A N c] := hd 10 (by omega) (by kernel_rfl)
      clear hd
      rw [h9]
      refine hop_call rfl rfl rfl (f := 14) (args := #[.agg #[.int .i64 (kk : Int), .int .i64 0, .slice A N c]]) (by go_simp) ?_
      refine (HT1.out W2 hG).mono ?_
      rintro e W' ⟨rfl, hb⟩
      exact ⟨_, rfl, hb, rfl⟩
    | 12, _ =>
      have h9 : us 9 = .bool true := hd 9 (by omega) (by kernel_rfl)
      clear hd
      rw [h9]
      have q0 := (hG.cell (b := w3.heap.size + 1) (o := 0) LB.out).trans B0.out
      have q0l := Nat.lt_of_lt_of_le LB.out hG.size
      have q1 := (hG.cell (b := w3.heap.size + 1) (o := 1) LB.out).trans B1.out
      have q1l := Nat.lt_of_lt_of_le LB.out hG.size
      have q2 := (hG.cell (b := w3.heap.size + 1) (o := 2) LB.out).trans B2.out
      have q2l := Nat.lt_of_lt_of_le LB.out hG.size
      exact hop_value rfl rfl rfl (v := .agg #[.int .i64 (kk : Int), .int .i64 0, .slice A2 N c2]) (W' := W2) (by go_simp) (Grows.refl _) rfl
    | 13, _ =>
      have h9 : us 9 = .bool true := hd 9 (by omega) (by kernel_rfl)
      have h12 : us 12 = .agg #[.int .i64 (kk : Int), .int .i64 0, .slice A2 N c2] := hd 12 (by omega) (by kernel_rfl)
      clear hd
      rw [h9]
      refine hop_call rfl rfl rfl (f := 15) (args := #[.agg #[.int .i64 (kk : Int), .int .i64 0, .slice A2 N c2]]) (by go_simp) ?_
      refine (HT2.out W2 hG).mono ?_
      rintro e W' ⟨rfl, hb⟩
      exact ⟨_, rfl, hb, rfl⟩
    | 14, _ =>
      have h9 : us 9 = .bool true := hd 9 (by omega) (by kernel_rfl)
      have h11 : us 11 = .int .u64 (T : Int) := hd 11 (by omega) (by kernel_rfl)
      have h13 : us 13 = .int .u64 (T : Int) := hd 13 (by omega) (by kernel_rfl)
      clear hd
      rw [h9]
      exact hop_value rfl rfl rfl (v := .bool true) (W' := W2) (by go_simp) (Grows.refl _) rfl
    | 15, _ =>
      have h9 : us 9 = .bool true := hd 9 (by omega) (by kernel_rfl)
      have h14 : us 14 = .bool true := hd 14 (by omega) (by kernel_rfl)
      clear hd
      exact hop_value rfl rfl rfl (v := .bool true) (W' := W2) (by go_simp) (Grows.refl _) rfl
    | 16, _ =>
      have h15 : us 15 = .bool true := hd 15 (by omega) (by kernel_rfl)
      clear hd
      exact hop_value rfl rfl rfl (v := .bool true) (W' := W2) (by go_simp) (Grows.refl _) rfl
    | 17, _ =>
      have h16 : us 16 = .bool true := hd 16 (by omega) (by kernel_rfl)
      clear hd
      rw [h16]
      exact hop_value rfl rfl rfl (v := .int .u64 (lv : Int)) (W' := W2) (by go_simp) (Grows.refl _) rfl
    | 18, _ =>
      have h16 : us 16 = .bool true := hd 16 (by omega) (by kernel_rfl)
      clear hd
      rw [h16]
      exact hop_value rfl rfl rfl (v := .int .u64 (lv : Int)) (W' := W2) (by go_simp) (Grows.refl _) rfl
    | 19, _ =>
      have h16 : us 16 = .bool true := hd 16 (by omega) (by kernel_rfl)
      have h17 : us 17 = .int .u64 (lv : Int) := hd 17 (by omega) (by kernel_rfl)
      have h18 : us 18 = .int .u64 (lv : Int) := hd 18 (by omega) (by kernel_rfl)
      clear hd
      rw [h16]
      exact hop_value rfl rfl rfl (v := .bool true) (W' := W2) (by go_simp) (Grows.refl _) rfl
    | 20, _ =>
      have h16 : us 16 = .bool true := hd 16 (by omega) (by kernel_rfl)
      have h19 : us 19 = .bool true := hd 19 (by omega) (by kernel_rfl)
      clear hd
      exact hop_value rfl rfl rfl (v := .bool true) (W' := W2) (by go_simp) (Grows.refl _) rfl
    | 21, _ =>
      have h20 : us 20 = .bool true := hd 20 (by omega) (by kernel_rfl)
      clear hd
      exact hop_value rfl rfl rfl (v := .bool true) (W' := W2) (by go_simp) (Grows.refl _) rfl
    | 22, _ =>
      have h21 : us 21 = .bool true := hd 21 (by omega) (by kernel_rfl)
      clear hd
      rw [h21]
      exact hop_value rfl rfl rfl (v := .bool lb) (W' := W2) (by go_simp) (Grows.refl _) rfl
    | 23, _ =>
      have h21 : us 21 = .bool true := hd 21 (by omega) (by kernel_rfl)
      clear hd
      rw [h21]
      exact hop_value rfl rfl rfl (v := .bool lb) (W' := W2) (by go_simp) (Grows.refl _) rfl
    | 24, _ =>
      have h21 : us 21 = .bool true := hd 21 (by omega) (by kernel_rfl)
      have h22 : us 22 = .bool lb := hd 22 (by omega) (by kernel_rfl)
      have h23 : us 23 = .bool lb := hd 23 (by omega) (by kernel_rfl)
      clear hd
      rw [h21]
      exact hop_value rfl rfl rfl (v := .bool true) (W' := W2) (by go_simp) (Grows.refl _) rfl
    | 25, _ =>
      have h21 : us 21 = .bool true := hd 21 (by omega) (by kernel_rfl)
      have h24 : us 24 = .bool true := hd 24 (by omega) (by kernel_rfl)
      clear hd
      exact hop_value rfl rfl rfl (v := .bool true) (W' := W2) (by go_simp) (Grows.refl _) rfl
    | d + 26, h => exact absurd h (by omega)
  case htailA =>
    intro us W2 hG hf
    have hz : us 25 = .bool true := hf 25 (by omega)
    clear hf
    rw [hz]
    have HG2 := Lib.hid hG
    clear hz hG
    simp only [List.drop_succ_cons, List.drop_zero]
    repeat (go_big_quiet_step (fail))
    refine wpQuiet_nil ?_
    rintro w' ⟨nq, rfl⟩
    have HBX := Lib.hid (below_drewN HG2.out nq)
    clear HG2
    generalize W2.drewN nq = wy at *
    go_wp2
    go_ret
    exact ⟨rfl, thn HB6.out HBX.out⟩

set_option maxRecDepth 100000 in
theorem lifted (os : Os) (started : os.Started) (H : Type) (enc : TypeId × Value → H) :
    ReturnsInHanded {} Try.checked os 3 .any (Rows.histPlaysSpec.pre6 enc Try.prog Try.f3 Rows.histPlaysRow.domain false) (Rows.histPlaysSpec.post enc Try.prog Try.f3 false true false false) := by
  refine returnsInHanded_of_change (C := Try.checked) own started (by kernel_rfl) Try.func3
    (ChangeSpec.witness6 (enc := enc) (C := Try.checked) false ⟨#[], #[.int .i64 0, .slice none 0 0], []⟩ 8 (by kernel_rfl) (by kernel_rfl) (by kernel_rfl) (by kernel_rfl)) ?_
  intro W base args ds gs before hval0 hW hcnd _
  have hval : ∀ (j : Nat) t v, Try.f3.params[j]? = some t → args[j]? = some v → Value.okWide Try.prog W .any base t v := hval0
  have hW' := hW
  obtain ⟨p, q, hA0, hV, rfl, hfz, hnd⟩ := hW
  have hA : DataW.TrodAll enc Try.prog W 0 (fun _ => true) true Try.f3.params.toList args.toList ds p := hA0
  rw [Try.params3] at hA hval
  obtain ⟨v0, vs0, d0, ds0, p0, q0, hargs, rfl, rfl, h0, r0⟩ := trodAll_cons hA
  obtain ⟨v1, vs1, d1, ds1, p1, q1, rfl, rfl, rfl, h1, r1⟩ := trodAll_cons r0
  obtain ⟨rfl, rfl, rfl⟩ := trodAll_nil r1
  obtain rfl : args = #[v0, v1] := by cases args; simp_all
  obtain ⟨rfl, rfl⟩ := trodVars_none hV
  obtain ⟨a0, rfl, rfl, rfl, w0⟩ := open_int Try.underlying3 (hval 0 3 v0 rfl rfl) h0
  obtain ⟨a1, len1, cap1, rfl⟩ := okWide_slice Try.underlying22 (hval 1 22 v1 rfl rfl)
  have k1 := h1
  have lt1 : ∀ x ∈ p1, x.block < W.heap.size := by obtain ⟨m, hm⟩ := k1; exact DataW.trod_lt m _ _ _ hm
  obtain ⟨z1, w1⟩ := Op.open_flats (f := 9) (ks := [.u64, .u64]) Try.underlying22 (by kernel_rfl) (by kernel_rfl) (by decide) h1
  clear hA0 hval0
  refine (walk a0 a1 len1 cap1 z1 W w0 w1).mono fun e W' ⟨he, bel⟩ => ?_
  subst he
  exact ⟨_, rfl, _, _, _, [], _, [], hW', trodAll_mk1 (shut_bool Try.underlying4 _), (trodAll_cons_mk (shut_int Try.underlying3 w0) (trodAll_cons_mk (Below.trod laidOut (by kernel_rfl) (of_decide_eq_true (by kernel_rfl)) k1 bel lt1) trodAll_mk0)), rfl, bel.frame _, fun h => by cases h⟩

theorem over : Rows.histPlaysRow.holds Try.pinned (OpenSpec.ofChange Rows.histPlaysSpec) :=
  OpenClaim.holds_of_wide 3 Try.f3 rfl rfl rfl rfl rfl rfl rfl ⟨rfl, rfl, rfl, rfl, rfl⟩ rfl rfl rfl rfl rfl (by kernel_rfl) Try.func3 (by kernel_rfl)
    (of_decide_eq_true (by kernel_rfl)) (by unfold Func.isWrapper; first | (rw [if_pos (by decide +kernel)]; kernel_rfl) | (rw [if_neg (by decide +kernel)]; exact ⟨rfl, rfl⟩))
    (fun os started H enc _ => lifted os started H enc)

/-- The statement. -/
theorem proved : Rows.HistPlaysSaid := over
#print axioms proved
end Go.Proofs.Ytimlmaincblkoaa.histPlays
