/-
  'skylight/skylightlaw10.ReplaySums' returns true for every input, and the input reads afterwards as it read before. Conditions: none.
-/
import Derived.Test.YtpdhkpgnajfobaaRows
import Derived.WalkKit
import Derived.ProofKit
import Derived.OpenShut
import Derived.ShutString
import Derived.ChangeOld
import Derived.Below
import Derived.Test.YtpdhkpgnajfobaaJ01
import Derived.Test.YtpdhkpgnajfobaaJ24
namespace Go.Proofs.Ytpdhkpgnajfobaa.replaySums
open Go.Proofs Go.Proofs.Rn Go.Proofs.Op Go.Proofs.Rw Go.Proofs.Lm Go.Proofs.Lh Go.Proofs.Rf Go.Proofs.Dg
open Go.ChangeShapes Go.WideShapes Go.ChangeAt Go.RowKit
open Go.ChangeMaps (open_string shut_string)
set_option linter.unusedVariables false

theorem own : ownKnob Try.prog.godebug = none := by kernel_rfl
theorem laidOut : laidOutB Try.prog = true := by kernel_rfl

/-- A slice of integers that came in: nil, or a row of cells of its capacity, each fitting its kind. -/
def IsRow (k : IntKind) (w : World) (a : Option Addr) (len cap : Nat) (zs : List Int) : Prop :=
  (a = none ∧ len = 0 ∧ cap = 0 ∧ zs = []) ∨
  ∃ x, a = some x ∧ len ≤ cap ∧ cap ≤ maxLen ∧ zs.length = cap ∧ (∀ i, i < zs.length → w.cell? (x.add i) = some (.int k (zs.getD i 0))) ∧ ∀ n ∈ zs, (Lit.int k n).wf = true

open Go.RowKit Go.Shelf Go.Proofs.Rw Go.Proofs.Lh Go.Proofs.Rf

set_option maxRecDepth 100000 in
set_option maxHeartbeats 4000000 in
theorem walk (a0_0 a0_5 : Int) (a0 : Fin 4 → Option Addr) (len0 cap0 : Fin 4 → Nat) (z0 : Fin 4 → Nat → Nat → Int) (a1 : Int) (w : World) (w0_0 : (Lit.int .i64 a0_0).wf = true) (w0_5 : (Lit.int .u8 a0_5).wf = true) (w0 : ∀ j : Fin 4, Op.FlatRow [.u64, .u64] w (a0 j) (len0 j) (cap0 j) (z0 j)) (w1 : (Lit.int .u8 a1).wf = true) :
    Calls Try.prog 4 #[.agg #[.int .i64 a0_0, .slice (a0 0) (len0 0) (cap0 0), .slice (a0 1) (len0 1) (cap0 1), .slice (a0 2) (len0 2) (cap0 2), .slice (a0 3) (len0 3) (cap0 3), .int .u8 a0_5], .int .u8 a1] w fun e w' => e = .returned (.bool true) ∧ Below w.heap.size w w' := by
  obtain ⟨t, hok, ht⟩ := tr_frame w0_0 w0_5 w0
  rw [ht]
  have ha1 : 0 ≤ a1 ∧ a1 < 256 := by
    simp [Lit.wf, IntKind.min, IntKind.max, IntKind.bits, IntKind.signed] at w1
    omega
  obtain ⟨ny, rfl⟩ : ∃ n : Nat, a1 = (n : Int) := ⟨a1.toNat, by omega⟩
  obtain ⟨n, hn⟩ : ∃ n : Nat, ny % 4 = n := ⟨_, rfl⟩
  have hn4 : n < 4 := by omega
  have hny : (ny : Int) % 4 = (n : Int) := by omega
  have hny2 : (ny : Int) < 256 := by omega
  have HNY := Lib.hid (And.intro hny (And.intro hny2 hn4))
  clear ht w0_0 w0_5 w0 w1 ha1 hn hn4 hny hny2
  obtain ⟨W0, hW0⟩ : ∃ W, w.alloc (.cells t.cells 38) = W := ⟨_, rfl⟩
  have hB0 : Below w.heap.size w W0 := by rw [← hW0]; exact (Below.refl _ w).alloc (Nat.le_refl _) _
  have p0 : W0.heap[w.heap.size]? = some (.cells t.cells 38) := by rw [← hW0]; exact heap_alloc_new w _
  have HOK := Lib.hid (hok.grow hB0)
  have HB0 := Lib.hid hB0
  have P0 := Lib.hid p0
  have HW0 := Lib.hid hW0
  clear hok hB0 p0 hW0
  go_enter Try.func4, Try.ntmps4
  go_upto_region 1 with (fail)
  rw [HW0.out]
  go_upto_region 2 with (go_at_call 9; refine (awake_any _).mono ?_; rintro e w1 ⟨rfl, hb1⟩; have HB1 := Lib.hid hb1; clear hb1)
  have HOK1 := Lib.hid (HOK.out.grow HB1.out)
  have hp1 := (HB1.out.block _ (lt_of P0.out)).trans P0.out
  have HP1 := Lib.hid hp1
  have HW1 := Lib.hid (thn HB0.out HB1.out)
  obtain ⟨z0, z1, z5⟩ := tr_box hp1
  have z10 := z1 0 (by omega)
  have z11 := z1 1 (by omega)
  have z12 := z1 2 (by omega)
  have z13 := z1 3 (by omega)
  have l0 := lt_of hp1
  clear z1 hp1 HOK HB0 P0 HW0 HB1
  go_upto_region 4 with (go_at_call 12; refine (lightT_any t _ HOK1.out).mono ?_; rintro e w2 ⟨q, rfl, hq, hb2⟩; have HQ := Lib.hid hq; have HB2 := Lib.hid hb2; clear hq hb2; cases q)
  all_goals try (go_ret; exact ⟨rfl, thn HW1.out HB2.out⟩)
  have HLI := Lib.hid (HQ.out (by simp))
  have hp2 := (HB2.out.block _ (lt_of HP1.out)).trans HP1.out
  have HOK2 := Lib.hid (HOK1.out.grow HB2.out)
  have HW2 := Lib.hid (thn HW1.out HB2.out)
  obtain ⟨hL0, hT0⟩ := tree_ok HLI.out
  obtain ⟨o3, hq1, hq2, hq3, hq4⟩ := quad_st hL0 hT0
  have hk := kOf_le t.K
  have hma : ∀ j, j < 4 → ∀ W, Below w2.heap.size w2 W → Calls Try.prog 10 #[.int .i64 t.K, .slice (t.A j) (t.ds j).length (t.c j)] W fun e w' => ∃ A c, e = .returned (hv (kOf t.K) 0 (.slice A (lvT t j).length c)) ∧ Levs w' w'.heap.size (.slice A (lvT t j).length c) (lvT t j) ∧ Below W.heap.size W w' := fun j hj W hW => gmade_any t.K HOK2.out.wf (t.ds j) W (t.A j) _ (t.c j) ((HOK2.out.deeds j hj).grow hW)
  obtain ⟨kk, hkk⟩ : ∃ x, kOf t.K = x := ⟨_, rfl⟩
  simp only [hkk] at hma
  rw [hkk] at hL0 hq1 hq2 hq4 hk
  have HQ1 := Lib.hid hq1
  have HQ2 := Lib.hid hq2
  have HQ3 := Lib.hid hq3
  have HQ4 := Lib.hid hq4
  have HMA := Lib.hid hma
  have HL0 := Lib.hid hL0
  have HT0 := Lib.hid hT0
  have HKB := Lib.hid hk
  clear hq1 hq2 hq3 hq4 hma hL0 hT0 hkk hk z0 z10 z11 z12 z13 z5 l0 HOK1 HP1 HW1 HB2 HQ
  obtain ⟨V, hV⟩ : ∃ W, w2.alloc (.cells #[.int .i64 0, .int .i64 0, .slice none 0 0, .int .i64 0, .int .i64 0, .slice none 0 0, .int .i64 0, .int .i64 0, .slice none 0 0, .int .i64 0, .int .i64 0, .slice none 0 0] 40) = W := ⟨_, rfl⟩
  have bV : Below w2.heap.size w2 V := by rw [← hV]; exact (Below.refl _ w2).alloc (Nat.le_refl _) _
  have pV : V.heap[w2.heap.size]? = some (.cells (arrH fun _ => zeroH) 40) := by rw [← hV]; exact heap_alloc_new w2 _
  have HPV := Lib.hid ((bV.block _ (lt_of hp2)).trans hp2)
  have HAV := Lib.hid pV
  have HBV := Lib.hid bV
  have HV := Lib.hid hV
  have HXA : Hid (w.heap.size < w2.heap.size) := lt_of hp2
  clear hp2 hV bV pV
  go_upto_region 5 with (fail)
  rw [HV.out]
  clear HV
  obtain ⟨bA, hbA⟩ : ∃ b, w2.heap.size = b := ⟨_, rfl⟩
  rw [hbA] at HAV HXA ⊢
  have HBA := Lib.hid hbA
  clear hbA
  go_wp2
  go_loopw [7, 8] (fun s p wr => ∃ (j : Nat) (H : Nat → Hx), p = .int .i64 (j : Int) ∧ j ≤ 4 ∧ s = .int .u64 (sum4 (fun i => tot (lvT t i)) j : Nat) ∧ Hid (wr.heap[bA]? = some (.cells (arrH H) 40)) ∧ Hid (∀ i, i < j → (H i).m = hM kk (lvT t) i ∧ (H i).In wr) ∧ Hid (wr.heap[w.heap.size]? = some (.cells t.cells 38)) ∧ Hid (Below w2.heap.size w2 wr)) (fun _ p _ => 4 - (intOf p).toNat)
  case atStart => exact ⟨0, _, rfl, by omega, rfl, HAV, Lib.hid fun i h => absurd h (by omega), HPV, HBV⟩
  case round =>
    obtain ⟨j, H, rfl, hj, rfl, HP2, HIN, HP0, HBR⟩ := hrel
    by_cases hlt : j < 4
    · obtain ⟨y0, y1, -⟩ := tr_box HP0.out
      have y1 := y1 j hlt
      have lX := lt_of HP0.out
      have lA := lt_of HP2.out
      have hma := fun (W : World) (hW : Grows wr W) => HMA.out j hlt W (thn HBR.out hW)
      have hlj : tot (lvT t j) ≤ 35184372088832 := HT0.out j hlt
      have hln := (HL0.out j hlt).stands.made.len
      have hln2 : (lvT t j).length ≤ 60 := Nat.le_trans hln (by omega)
      obtain ⟨L, hL⟩ : ∃ x, lvT t j = x := ⟨_, rfl⟩
      obtain ⟨K, hK⟩ : ∃ x, t.K = x := ⟨_, rfl⟩
      obtain ⟨A, hA⟩ : ∃ x, t.A j = x := ⟨_, rfl⟩
      obtain ⟨N, hN⟩ : ∃ x, (t.ds j).length = x := ⟨_, rfl⟩
      obtain ⟨c, hc⟩ : ∃ x, t.c j = x := ⟨_, rfl⟩
      have hsb : sum4 (fun i => tot (lvT t i)) j ≤ 4 * 35184372088832 := Nat.le_trans (sum4_le HT0.out j hj) (Nat.mul_le_mul_right _ hj)
      have hsn : sum4 (fun i => tot (lvT t i)) (j + 1) = sum4 (fun i => tot (lvT t i)) j + tot L := by rw [sum4, hL]
      obtain ⟨S, hS⟩ : ∃ x, sum4 (fun i => tot (lvT t i)) j = x := ⟨_, rfl⟩
      obtain ⟨TL, hTL⟩ : ∃ x, tot L = x := ⟨_, rfl⟩
      rw [hS, hTL] at hsn
      rw [hL, hTL] at hlj
      rw [hL] at hln2
      rw [hL, hK, hA, hN, hc] at hma
      rw [hK] at y0
      rw [hA, hN, hc] at y1
      rw [hS] at hsb ⊢
      have HSN := Lib.hid hsn
      have HLJ := Lib.hid (And.intro hlj (And.intro hsb hln2))
      have HTL := Lib.hid hTL
      have HLL := Lib.hid hL
      have HM := Lib.hid hma
      have Y0 := Lib.hid y0
      have Y1 := Lib.hid y1
      have LX := Lib.hid lX
      have HZL := Lib.hid lA
      have HJ4 := Lib.hid hlt
      clear y0 y1 lX lA hma hL hK hA hN hc hS hTL hsn hlj hsb hln hln2
      go_upto_region 9 with (fail)
      refine region_mask0 (fr := ?frB) 9 9 [25, 26, 27, 28, 29, 30, 31, 32, 33] (fun i v W => match i with
          | 0 => v = .int .i64 (j : Int)
          | 1 => v = .pointer (some ⟨w.heap.size, 0, none⟩)
          | 2 => v = .int .i64 K
          | 3 => v = .int .i64 (j : Int)
          | 4 => v = .pointer (some ⟨w.heap.size, 1, none⟩)
          | 5 => v = .pointer (some ⟨w.heap.size, 1 + j, none⟩)
          | 6 => v = .slice A N c
          | 7 => ∃ A1 c1, v = .agg #[.int .i64 (kk : Int), .int .i64 0, .slice A1 L.length c1] ∧ Levs W W.heap.size (.slice A1 L.length c1) L
          | 8 => ∃ A1 c1, v = .agg #[.int .i64 (kk : Int), .int .i64 0, .slice A1 L.length c1] ∧ Levs W W.heap.size (.slice A1 L.length c1) L
          | _ => True) rfl ?hBB (by kernel_rfl) (by kernel_rfl) ?hfrB ?hFB ?hopB ?htailB
      case hBB => kernel_rfl
      case hfrB =>
        intro us
        simp only [putL]
        go_simp
        rfl
      case hFB =>
        intro i v W W' hG h
        match i with
        | 0 => exact h
        | 1 => exact h
        | 2 => exact h
        | 3 => exact h
        | 4 => exact h
        | 5 => exact h
        | 6 => exact h
        | 7 => exact (by obtain ⟨A1, c1, h1, h2⟩ := h; exact ⟨A1, c1, h1, h2.grow hG⟩)
        | 8 => exact (by obtain ⟨A1, c1, h1, h2⟩ := h; exact ⟨A1, c1, h1, h2.grow hG⟩)
        | n + 9 => trivial
      case hopB =>
        intro i hi us W2 hG hd
        match i, hi with
        | 0, _ =>
          clear hd
          exact hop_value rfl rfl rfl (v := .int .i64 (j : Int)) (W' := W2) (by go_simp) (Grows.refl _) rfl
        | 1, _ =>
          clear hd
          exact hop_value rfl rfl rfl (v := .pointer (some ⟨w.heap.size, 0, none⟩)) (W' := W2) (by go_simp) (Grows.refl _) rfl
        | 2, _ =>
          have h1 : (us 1) = .pointer (some ⟨w.heap.size, 0, none⟩) := hd 1 (by omega) (by kernel_rfl)
          clear hd
          have q := (hG.cell (b := w.heap.size) (o := 0) LX.out).trans Y0.out
          have ql := Nat.lt_of_lt_of_le LX.out hG.size
          exact hop_value rfl rfl rfl (v := .int .i64 K) (W' := W2) (by go_simp) (Grows.refl _) rfl
        | 3, _ =>
          clear hd
          exact hop_value rfl rfl rfl (v := .int .i64 (j : Int)) (W' := W2) (by go_simp) (Grows.refl _) rfl
        | 4, _ =>
          clear hd
          exact hop_value rfl rfl rfl (v := .pointer (some ⟨w.heap.size, 1, none⟩)) (W' := W2) (by go_simp) (Grows.refl _) rfl
        | 5, _ =>
          have h4 : (us 4) = .pointer (some ⟨w.heap.size, 1, none⟩) := hd 4 (by omega) (by kernel_rfl)
          have h3 : (us 3) = .int .i64 (j : Int) := hd 3 (by omega) (by kernel_rfl)
          clear hd
          have hj4 := HJ4.out
          exact hop_value rfl rfl rfl (v := .pointer (some ⟨w.heap.size, 1 + j, none⟩)) (W' := W2) (by go_simp) (Grows.refl _) rfl
        | 6, _ =>
          have h5 : (us 5) = .pointer (some ⟨w.heap.size, 1 + j, none⟩) := hd 5 (by omega) (by kernel_rfl)
          clear hd
          have q := (hG.cell (b := w.heap.size) (o := 1 + j) LX.out).trans Y1.out
          have ql := Nat.lt_of_lt_of_le LX.out hG.size
          exact hop_value rfl rfl rfl (v := .slice A N c) (W' := W2) (by go_simp) (Grows.refl _) rfl
        | 7, _ =>
          have h2 : (us 2) = .int .i64 K := hd 2 (by omega) (by kernel_rfl)
          have h6 : (us 6) = .slice A N c := hd 6 (by omega) (by kernel_rfl)
          clear hd
          refine hop_call rfl rfl rfl (f := 10) (args := #[.int .i64 K, .slice A N c]) (by go_simp) ?_
          refine (HM.out W2 hG).mono ?_
          rintro e W' ⟨A1, c1, rfl, hL1, hb⟩
          exact ⟨_, rfl, hb, A1, c1, rfl, hL1⟩
        | 8, _ =>
          have h7 : ∃ A1 c1, (us 7) = .agg #[.int .i64 (kk : Int), .int .i64 0, .slice A1 L.length c1] ∧ Levs W2 W2.heap.size (.slice A1 L.length c1) L := hd 7 (by omega) (by kernel_rfl)
          clear hd
          obtain ⟨A1, c1, e7, hL1⟩ := h7
          refine hop_call rfl rfl rfl (f := 13) (args := #[.agg #[.int .i64 (kk : Int), .int .i64 0, .slice A1 L.length c1]]) (by go_simp) ?_
          refine (lmade_any _ _ _ _ _ W2).mono ?_
          rintro e W' ⟨rfl, hb⟩
          exact ⟨_, rfl, hb, A1, c1, rfl, hL1.grow hb⟩
        | d + 9, h => exact absurd h (by omega)
      case htailB =>
        intro us W2 hG hf
        have h0 : (us 0) = .int .i64 (j : Int) := hf 0 (by omega)
        have h8 : ∃ A1 c1, (us 8) = .agg #[.int .i64 (kk : Int), .int .i64 0, .slice A1 L.length c1] ∧ Levs W2 W2.heap.size (.slice A1 L.length c1) L := hf 8 (by omega)
        clear hf
        simp only [List.drop_succ_cons, List.drop_zero]
        obtain ⟨A1, c1, h8, hL1⟩ := h8
        have hp2 := (hG.block _ HZL.out).trans HP2.out
        have hfz := frozenH hp2
        obtain ⟨q0, q1, q2⟩ := arrH_at hp2 j hlt
        have hst := arrH_set hp2 j hlt ⟨(kk : Int), 0, A1, c1, L⟩
        have lA := lt_of hp2
        have hin : (⟨(kk : Int), 0, A1, c1, L⟩ : Hx).In (((W2.setCell ⟨bA, j * 3, none⟩ (.int .i64 (kk : Int))).setCell ⟨bA, j * 3 + 1, none⟩ (.int .i64 0)).setCell ⟨bA, j * 3 + 2, none⟩ (.slice A1 L.length c1)) := in_other (x := ⟨(kk : Int), 0, A1, c1, L⟩) hL1 hp2 (by decide) (by decide) (grown3o _ _ _)
        have hins : ∀ i, i < j → (H i).m = hM kk (lvT t) i ∧ (H i).In (((W2.setCell ⟨bA, j * 3, none⟩ (.int .i64 (kk : Int))).setCell ⟨bA, j * 3 + 1, none⟩ (.int .i64 0)).setCell ⟨bA, j * 3 + 2, none⟩ (.slice A1 L.length c1)) := fun i hi => ⟨(HIN.out i hi).1, in_other ((HIN.out i hi).2.grow hG) hp2 (by decide) (by decide) (grown3o _ _ _)⟩
        have hpt : (((W2.setCell ⟨bA, j * 3, none⟩ (.int .i64 (kk : Int))).setCell ⟨bA, j * 3 + 1, none⟩ (.int .i64 0)).setCell ⟨bA, j * 3 + 2, none⟩ (.slice A1 L.length c1)).heap[w.heap.size]? = some (.cells t.cells 38) := (keep3o (by have := HXA.out; omega) _ _ _).trans ((hG.block _ LX.out).trans HP0.out)
        have hbw : Below w2.heap.size w2 (((W2.setCell ⟨bA, j * 3, none⟩ (.int .i64 (kk : Int))).setCell ⟨bA, j * 3 + 1, none⟩ (.int .i64 0)).setCell ⟨bA, j * 3 + 2, none⟩ (.slice A1 L.length c1)) := below3o (thn HBR.out hG) (by have := HBA.out; omega) _ _ _
        have HST := Lib.hid hst
        have HI1 := Lib.hid hin
        have HIS := Lib.hid hins
        have HPT := Lib.hid hpt
        have HBW := Lib.hid hbw
        rw [h0, h8]
        clear hst hL1 hG hp2 h8 h0 hin hins hpt hbw HM
        go_upto_region 10 with (fail)
        obtain ⟨W5, hW5⟩ : ∃ W, (((W2.setCell ⟨bA, j * 3, none⟩ (.int .i64 (kk : Int))).setCell ⟨bA, j * 3 + 1, none⟩ (.int .i64 0)).setCell ⟨bA, j * 3 + 2, none⟩ (.slice A1 L.length c1)) = W := ⟨_, rfl⟩
        rw [hW5] at HI1 HPT HBW ⊢
        simp only [hW5] at HIS
        have hst : W5.heap[bA]? = some (.cells (arrH (updH H j ⟨(kk : Int), 0, A1, c1, L⟩)) 40) := by rw [← hW5]; exact HST.out
        have HS5 := Lib.hid hst
        clear hW5 HST hfz q0 q1 q2 lA
        have g := arrH_at hst j hlt
        rw [updH_same] at g
        obtain ⟨g0, g1, g2⟩ := g
        dsimp only [Hx.sl] at g0 g1 g2
        have lA := lt_of hst
        clear hst
        have hto : Calls Try.prog 14 #[.agg #[.int .i64 (kk : Int), .int .i64 0, .slice A1 L.length c1]] W5 fun e w' => e = .returned (.int .u64 (TL : Int)) ∧ Below W5.heap.size W5 w' := by
          have := total_any (kk : Int) 0 L HLJ.out.2.2 (by have := HTL.out; have := HLJ.out.1; omega) W5 A1 c1 HI1.out
          rw [HTL.out] at this
          exact this
        have HTO := Lib.hid hto
        have hsl : (S : Int) + (TL : Int) ≤ 18446744073709551615 := by have := HLJ.out; omega
        clear hto
        go_wp2_with (go_at_call 14; refine HTO.out.mono ?_; rintro e w6 ⟨rfl, hb6⟩; have HB6 := Lib.hid hb6; clear hb6)
        have hl6 := lt_of HS5.out
        refine ⟨⟨j + 1, updH H j ⟨(kk : Int), 0, A1, c1, L⟩, by go_num, HJ4.out, ?_, Lib.hid ((HB6.out.block _ hl6).trans HS5.out), Lib.hid fun i hi => ?_, Lib.hid ((HB6.out.block _ (lt_of HPT.out)).trans HPT.out), Lib.hid (thn HBW.out HB6.out)⟩, by have := HJ4.out; simp [intOf]; omega⟩
        · rw [HSN.out]
          rfl
        · by_cases e : i = j
          · subst e
            rw [updH_same]
            refine ⟨?_, HI1.out.grow HB6.out⟩
            unfold hM
            rw [HLL.out]
            rfl
          · unfold updH
            rw [if_neg e]
            obtain ⟨e1, e2⟩ := HIS.out i (by omega)
            exact ⟨e1, e2.grow HB6.out⟩
    · have e : j = 4 := by omega
      subst e
      obtain ⟨S, hS⟩ : ∃ x, sum4 (fun i => tot (lvT t i)) 4 = x := ⟨_, rfl⟩
      rw [hS] at HQ3 ⊢
      have hgd : ∀ i, i < 4 → Lh.Good (H i).m := fun i hi => by rw [(HIN.out i hi).1]; exact (HL0.out i hi).good
      have hme : ∀ i, i < 4 → (H i).m = hM kk (lvT t) i := fun i hi => (HIN.out i hi).1
      have hin4 : ∀ i, i < 4 → (H i).In wr := fun i hi => (HIN.out i hi).2
      have hms : [(H 0).m, (H 1).m, (H 2).m, (H 3).m] = [hM kk (lvT t) 0, hM kk (lvT t) 1, hM kk (lvT t) 2, hM kk (lvT t) 3] := by rw [hme 0 (by omega), hme 1 (by omega), hme 2 (by omega), hme 3 (by omega)]
      have hperm : ∀ l : List Hm, l.Perm [(H 0).m, (H 1).m, (H 2).m, (H 3).m] → outM [] l = ((kk : Int), 1, o3) ∧ badN [] l = 0 := by
        intro l hl
        rw [hms] at hl
        have := out_perm (k := kk) hl.symm (by simp) (by
          intro m hm
          simp only [List.mem_cons, List.not_mem_nil, or_false] at hm
          rcases hm with rfl | rfl | rfl | rfl <;> exact ⟨rfl, rfl⟩) HQ4.out
        exact ⟨this.1.symm.trans HQ1.out, this.2.2⟩
      have HPE := Lib.hid hperm
      have HGD := Lib.hid hgd
      have HI4 := Lib.hid hin4
      clear hms hperm hgd hin4 hme hS HIN HMA HL0 HT0 HP0 HQ1 HQ4 HOK2 HLI
      obtain ⟨⟨ac0, ac1, ac2⟩, ⟨ac3, ac4, ac5⟩, ⟨ac6, ac7, ac8⟩, ac9, acx, acy⟩ := arrH_all HP2.out
      have lA := lt_of HP2.out
      go_upto_region 12 with (go_at_call 15; refine (quad_any (H 0) (H 1) (H 2) (H 3) (by intro x hx; simp only [List.mem_cons, List.not_mem_nil, or_false] at hx; rcases hx with rfl | rfl | rfl | rfl <;> exact HGD.out _ (by omega)) (HPE.out _ (List.Perm.refl _)).1 (HPE.out _ (List.Perm.refl _)).2 _ (by intro x hx; simp only [List.mem_cons, List.not_mem_nil, or_false] at hx; rcases hx with rfl | rfl | rfl | rfl <;> exact HI4.out _ (by omega))).mono ?_; rintro e w6 ⟨A1, c1, rfl, hL6, hb6⟩; have HL6 := Lib.hid hL6; have HB6 := Lib.hid hb6; clear hL6 hb6)
      obtain ⟨V1, hV⟩ : ∃ W, w6.alloc (.cells #[.int .i64 (kk : Int), .int .i64 1, .slice A1 o3.length c1] 32) = W := ⟨_, rfl⟩
      have bV : Below w6.heap.size w6 V1 := by rw [← hV]; exact (Below.refl _ w6).alloc (Nat.le_refl _) _
      have pV : V1.heap[w6.heap.size]? = some (.cells #[.int .i64 (kk : Int), .int .i64 1, .slice A1 o3.length c1] 32) := by rw [← hV]; exact heap_alloc_new w6 _
      rw [hV]
      have hb1 := thn HB6.out bV
      have hp1 := (hb1.block _ (lt_of HP2.out)).trans HP2.out
      have HP3 := Lib.hid hp1
      have HV1 := Lib.hid pV
      have HLV1 := Lib.hid (HL6.out.grow bV)
      have HB1 := Lib.hid (thn HBR.out hb1)
      have HI5 : Hid (∀ i, i < 4 → (H i).In V1) := fun i hi => (HI4.out i hi).grow hb1
      obtain ⟨p1, hp1'⟩ : ∃ b, w6.heap.size = b := ⟨_, rfl⟩
      rw [hp1'] at HV1 ⊢
      clear bV pV hV hb1 hp1 hp1' HL6 HB6 HI4 HP2 HBR lA
      clear ac0 ac1 ac2 ac3 ac4 ac5 ac6 ac7 ac8 ac9 acx acy
      obtain ⟨hny, hny2, hn4⟩ := HNY.out
      go_upto_region 13 with (fail)
      simp only [hny]
      have hwn : IntKind.i64.wrap (n : Int) = (n : Int) := IntWalk.i64_in _ (by omega)
      try simp only [hwn]
      obtain ⟨na, hna⟩ : ∃ x, (n + 1) % 4 = x := ⟨_, rfl⟩
      obtain ⟨nb, hnb⟩ : ∃ x, (n + 2) % 4 = x := ⟨_, rfl⟩
      obtain ⟨nc, hnc⟩ : ∃ x, (n + 3) % 4 = x := ⟨_, rfl⟩
      have hrot : [(H n).m, (H na).m, (H nb).m, (H nc).m].Perm [(H 0).m, (H 1).m, (H 2).m, (H 3).m] := rot_perm (fun i => (H i).m) hn4 hna hnb hnc
      have ia : ((n : Int) + 1) % 4 = (na : Int) := by omega
      have ib : ((n : Int) + 2) % 4 = (nb : Int) := by omega
      have ic : ((n : Int) + 3) % 4 = (nc : Int) := by omega
      have ja : na < 4 := by omega
      have jb : nb < 4 := by omega
      have jc : nc < 4 := by omega
      have HROT := Lib.hid hrot
      have HIX := Lib.hid (And.intro ia (And.intro ib ic))
      have HJX := Lib.hid (And.intro hn4 (And.intro ja (And.intro jb jc)))
      have hmg : ∀ (W : World) (b : Nat), Hs W W.heap.size (.slice (some ⟨b, 0, none⟩) 4 4) [H n, H na, H nb, H nc] → Calls Try.prog 15 #[.slice (some ⟨b, 0, none⟩) 4 4] W fun e w' => ∃ (Aa : Option Addr) (ca : Nat), e = .returned (.tuple #[.agg #[.int .i64 (kk : Int), .int .i64 1, .slice Aa o3.length ca], .int .i64 0]) ∧ Levs w' w'.heap.size (.slice Aa o3.length ca) o3 ∧ Below W.heap.size W w' := fun W b hs => merge_hs [H n, H na, H nb, H nc] (by simp) (by intro x hx; simp only [List.mem_cons, List.not_mem_nil, or_false] at hx; rcases hx with rfl | rfl | rfl | rfl <;> first | exact HGD.out _ hn4 | exact HGD.out _ ja | exact HGD.out _ jb | exact HGD.out _ jc) (HPE.out _ hrot).1 (HPE.out _ hrot).2 W _ 4 hs
      have HMG := Lib.hid hmg
      have hin : ∀ W, Grows V1 W → ∀ x ∈ [H n, H na, H nb, H nc], x.In W := by
        intro W hW x hx
        simp only [List.mem_cons, List.not_mem_nil, or_false] at hx
        rcases hx with rfl | rfl | rfl | rfl
        · exact (HI5.out _ hn4).grow hW
        · exact (HI5.out _ ja).grow hW
        · exact (HI5.out _ jb).grow hW
        · exact (HI5.out _ jc).grow hW
      have HIN := Lib.hid hin
      have LA := Lib.hid (lt_of HP3.out)
      clear hna hnb hnc hrot ia ib ic ja jb jc hmg hin hny hny2 hn4 hwn
      refine region_all (fr := ?frC) (fun i us W => match i with
          | 0 => us 0 = .int .i64 (n : Int)
          | 1 => us 1 = .pointer (some ⟨bA, n * 3, none⟩)
          | 2 => us 2 = .agg #[.int .i64 (H n).k, .int .i64 (H n).g, (H n).sl]
          | 3 => us 3 = .int .i64 (n : Int)
          | 4 => us 4 = .int .i64 ((n : Int) + 1)
          | 5 => us 5 = .int .i64 (na : Int)
          | 6 => us 6 = .pointer (some ⟨bA, na * 3, none⟩)
          | 7 => us 7 = .agg #[.int .i64 (H na).k, .int .i64 (H na).g, (H na).sl]
          | 8 => us 8 = .int .i64 (n : Int)
          | 9 => us 9 = .int .i64 ((n : Int) + 2)
          | 10 => us 10 = .int .i64 (nb : Int)
          | 11 => us 11 = .pointer (some ⟨bA, nb * 3, none⟩)
          | 12 => us 12 = .agg #[.int .i64 (H nb).k, .int .i64 (H nb).g, (H nb).sl]
          | 13 => us 13 = .int .i64 (n : Int)
          | 14 => us 14 = .int .i64 ((n : Int) + 3)
          | 15 => us 15 = .int .i64 (nc : Int)
          | 16 => us 16 = .pointer (some ⟨bA, nc * 3, none⟩)
          | 17 => us 17 = .agg #[.int .i64 (H nc).k, .int .i64 (H nc).g, (H nc).sl]
          | 18 => Bs 32 [H n, H na, H nb, H nc] (us 18) W
          | 19 => Gq (kk : Int) 1 o3 0 (us 19) W
          | 20 => Gq (kk : Int) 1 o3 0 (us 20) W
          | 21 => Hq (kk : Int) 1 o3 (us 21) W
          | 22 => us 22 = .int .i64 0
          | 23 => Nw3 32 V1.heap.size (us 23) W
          | 24 => Yg 32 V1.heap.size (kk : Int) 1 o3 (us 23) W
          | 25 => us 25 = .int .i64 0
          | _ => True) (fun j W W' => Es (two 24 24 32 32) V1.heap.size j W W') (fun W => Below V1.heap.size V1 W) rfl ?hBC ?hfrC ?hlocC ?hstC ?hG0C ?hGC ?hopC ?hendC
      case hBC => kernel_rfl
      case hfrC =>
        intro us
        simp only [List.length_cons, List.length_nil, Nat.zero_add, Nat.reduceAdd, putO, dstO]
        go_simp
        rfl
      case hlocC =>
        intro i us us' W h hf
        match i with
        | 0 =>
          have e0 := h 0 (.inl rfl)
          try dsimp only at hf ⊢
          rw [e0] at hf
          exact hf
        | 1 =>
          have e1 := h 1 (.inl rfl)
          try dsimp only at hf ⊢
          rw [e1] at hf
          exact hf
        | 2 =>
          have e2 := h 2 (.inl rfl)
          try dsimp only at hf ⊢
          rw [e2] at hf
          exact hf
        | 3 =>
          have e3 := h 3 (.inl rfl)
          try dsimp only at hf ⊢
          rw [e3] at hf
          exact hf
        | 4 =>
          have e4 := h 4 (.inl rfl)
          try dsimp only at hf ⊢
          rw [e4] at hf
          exact hf
        | 5 =>
          have e5 := h 5 (.inl rfl)
          try dsimp only at hf ⊢
          rw [e5] at hf
          exact hf
        | 6 =>
          have e6 := h 6 (.inl rfl)
          try dsimp only at hf ⊢
          rw [e6] at hf
          exact hf
        | 7 =>
          have e7 := h 7 (.inl rfl)
          try dsimp only at hf ⊢
          rw [e7] at hf
          exact hf
        | 8 =>
          have e8 := h 8 (.inl rfl)
          try dsimp only at hf ⊢
          rw [e8] at hf
          exact hf
        | 9 =>
          have e9 := h 9 (.inl rfl)
          try dsimp only at hf ⊢
          rw [e9] at hf
          exact hf
        | 10 =>
          have e10 := h 10 (.inl rfl)
          try dsimp only at hf ⊢
          rw [e10] at hf
          exact hf
        | 11 =>
          have e11 := h 11 (.inl rfl)
          try dsimp only at hf ⊢
          rw [e11] at hf
          exact hf
        | 12 =>
          have e12 := h 12 (.inl rfl)
          try dsimp only at hf ⊢
          rw [e12] at hf
          exact hf
        | 13 =>
          have e13 := h 13 (.inl rfl)
          try dsimp only at hf ⊢
          rw [e13] at hf
          exact hf
        | 14 =>
          have e14 := h 14 (.inl rfl)
          try dsimp only at hf ⊢
          rw [e14] at hf
          exact hf
        | 15 =>
          have e15 := h 15 (.inl rfl)
          try dsimp only at hf ⊢
          rw [e15] at hf
          exact hf
        | 16 =>
          have e16 := h 16 (.inl rfl)
          try dsimp only at hf ⊢
          rw [e16] at hf
          exact hf
        | 17 =>
          have e17 := h 17 (.inl rfl)
          try dsimp only at hf ⊢
          rw [e17] at hf
          exact hf
        | 18 =>
          have e18 := h 18 (.inl rfl)
          try dsimp only at hf ⊢
          rw [e18] at hf
          exact hf
        | 19 =>
          have e19 := h 19 (.inl rfl)
          try dsimp only at hf ⊢
          rw [e19] at hf
          exact hf
        | 20 =>
          have e20 := h 20 (.inl rfl)
          try dsimp only at hf ⊢
          rw [e20] at hf
          exact hf
        | 21 =>
          have e21 := h 21 (.inl rfl)
          try dsimp only at hf ⊢
          rw [e21] at hf
          exact hf
        | 22 =>
          have e22 := h 22 (.inl rfl)
          try dsimp only at hf ⊢
          rw [e22] at hf
          exact hf
        | 23 =>
          have e23 := h 23 (.inl rfl)
          try dsimp only at hf ⊢
          rw [e23] at hf
          exact hf
        | 24 =>
          have e23 := h 23 (.inr (by kernel_rfl))
          try dsimp only at hf ⊢
          rw [e23] at hf
          exact hf
        | 25 =>
          have e25 := h 25 (.inl rfl)
          try dsimp only at hf ⊢
          rw [e25] at hf
          exact hf
        | n + 26 => trivial
      case hstC =>
        intro i j us W W' hne hw hi hj hE hf
        match i with
        | 0 => exact hf
        | 1 => exact hf
        | 2 => exact hf
        | 3 => exact hf
        | 4 => exact hf
        | 5 => exact hf
        | 6 => exact hf
        | 7 => exact hf
        | 8 => exact hf
        | 9 => exact hf
        | 10 => exact hf
        | 11 => exact hf
        | 12 => exact hf
        | 13 => exact hf
        | 14 => exact hf
        | 15 => exact hf
        | 16 => exact hf
        | 17 => exact hf
        | 18 =>
          exact bs_es hE hf
        | 19 =>
          exact gq_es hE hf
        | 20 =>
          exact gq_es hE hf
        | 21 =>
          exact hq_es hE hf
        | 22 => exact hf
        | 23 =>
          exact nw3_es hE hf
        | 24 =>
          exact yg_es hE (two_one (Ne.symm hne)) hf
        | 25 => exact hf
        | n + 26 => trivial
      case hG0C =>
        exact (Below.refl _ V1).drew
      case hGC =>
        intro j W W' hE hg
        exact Es.below hE hg hg.size
      case hopC =>
        intro i hi us W hg hd hq
        match i, hi with
        | 0, _ =>
          clear hd hq
          refine all_value rfl rfl (.int .i64 (n : Int)) W (by go_simp) ?_ ?_
          · exact .inl (Grows.refl _)
          · rfl
        | 1, _ =>
          have h0 : us 0 = .int .i64 (n : Int) := hd 0 (by kernel_rfl)
          clear hd hq
          have hj : n < 4 := HJX.out.1
          have hj2 : (n : Int) < 4 := by omega
          refine all_value rfl rfl (.pointer (some ⟨bA, n * 3, none⟩)) W (by go_simp) ?_ ?_
          · exact .inl (Grows.refl _)
          · rfl
        | 2, _ =>
          have h1 : us 1 = .pointer (some ⟨bA, n * 3, none⟩) := hd 1 (by kernel_rfl)
          clear hd hq
          have hp := (hg.block _ LA.out).trans HP3.out
          obtain ⟨q0, q1, q2⟩ := arrH_at hp n HJX.out.1
          have hl := lt_of hp
          refine all_value rfl rfl (.agg #[.int .i64 (H n).k, .int .i64 (H n).g, (H n).sl]) W (by go_simp) ?_ ?_
          · exact .inl (Grows.refl _)
          · rfl
        | 3, _ =>
          clear hd hq
          refine all_value rfl rfl (.int .i64 (n : Int)) W (by go_simp) ?_ ?_
          · exact .inl (Grows.refl _)
          · rfl
        | 4, _ =>
          have h3 : us 3 = .int .i64 (n : Int) := hd 3 (by kernel_rfl)
          clear hd hq
          have hj : n < 4 := HJX.out.1
          have hw := IntWalk.i64_in ((n : Int) + 1) (by omega)
          refine all_value rfl rfl (.int .i64 ((n : Int) + 1)) W (by go_simp) ?_ ?_
          · exact .inl (Grows.refl _)
          · rfl
        | 5, _ =>
          have h4 : us 4 = .int .i64 ((n : Int) + 1) := hd 4 (by kernel_rfl)
          clear hd hq
          have hj := HJX.out.1
          have hi : ((n : Int) + 1).tmod 4 = (na : Int) := by rw [Int.tmod_eq_emod_of_nonneg (by omega)]; exact HIX.out.1
          refine all_value rfl rfl (.int .i64 (na : Int)) W (by go_simp) ?_ ?_
          · exact .inl (Grows.refl _)
          · rfl
        | 6, _ =>
          have h5 : us 5 = .int .i64 (na : Int) := hd 5 (by kernel_rfl)
          clear hd hq
          have hj : na < 4 := HJX.out.2.1
          have hj2 : (na : Int) < 4 := by omega
          refine all_value rfl rfl (.pointer (some ⟨bA, na * 3, none⟩)) W (by go_simp) ?_ ?_
          · exact .inl (Grows.refl _)
          · rfl
        | 7, _ =>
          have h6 : us 6 = .pointer (some ⟨bA, na * 3, none⟩) := hd 6 (by kernel_rfl)
          clear hd hq
          have hp := (hg.block _ LA.out).trans HP3.out
          obtain ⟨q0, q1, q2⟩ := arrH_at hp na HJX.out.2.1
          have hl := lt_of hp
          refine all_value rfl rfl (.agg #[.int .i64 (H na).k, .int .i64 (H na).g, (H na).sl]) W (by go_simp) ?_ ?_
          · exact .inl (Grows.refl _)
          · rfl
        | 8, _ =>
          clear hd hq
          refine all_value rfl rfl (.int .i64 (n : Int)) W (by go_simp) ?_ ?_
          · exact .inl (Grows.refl _)
          · rfl
        | 9, _ =>
          have h8 : us 8 = .int .i64 (n : Int) := hd 8 (by kernel_rfl)
          clear hd hq
          have hj : n < 4 := HJX.out.1
          have hw := IntWalk.i64_in ((n : Int) + 2) (by omega)
          refine all_value rfl rfl (.int .i64 ((n : Int) + 2)) W (by go_simp) ?_ ?_
          · exact .inl (Grows.refl _)
          · rfl
        | 10, _ =>
          have h9 : us 9 = .int .i64 ((n : Int) + 2) := hd 9 (by kernel_rfl)
          clear hd hq
          have hj := HJX.out.1
          have hi : ((n : Int) + 2).tmod 4 = (nb : Int) := by rw [Int.tmod_eq_emod_of_nonneg (by omega)]; exact HIX.out.2.1
          refine all_value rfl rfl (.int .i64 (nb : Int)) W (by go_simp) ?_ ?_
          · exact .inl (Grows.refl _)
          · rfl
        | 11, _ =>
          have h10 : us 10 = .int .i64 (nb : Int) := hd 10 (by kernel_rfl)
          clear hd hq
          have hj : nb < 4 := HJX.out.2.2.1
          have hj2 : (nb : Int) < 4 := by omega
          refine all_value rfl rfl (.pointer (some ⟨bA, nb * 3, none⟩)) W (by go_simp) ?_ ?_
          · exact .inl (Grows.refl _)
          · rfl
        | 12, _ =>
          have h11 : us 11 = .pointer (some ⟨bA, nb * 3, none⟩) := hd 11 (by kernel_rfl)
          clear hd hq
          have hp := (hg.block _ LA.out).trans HP3.out
          obtain ⟨q0, q1, q2⟩ := arrH_at hp nb HJX.out.2.2.1
          have hl := lt_of hp
          refine all_value rfl rfl (.agg #[.int .i64 (H nb).k, .int .i64 (H nb).g, (H nb).sl]) W (by go_simp) ?_ ?_
          · exact .inl (Grows.refl _)
          · rfl
        | 13, _ =>
          clear hd hq
          refine all_value rfl rfl (.int .i64 (n : Int)) W (by go_simp) ?_ ?_
          · exact .inl (Grows.refl _)
          · rfl
        | 14, _ =>
          have h13 : us 13 = .int .i64 (n : Int) := hd 13 (by kernel_rfl)
          clear hd hq
          have hj : n < 4 := HJX.out.1
          have hw := IntWalk.i64_in ((n : Int) + 3) (by omega)
          refine all_value rfl rfl (.int .i64 ((n : Int) + 3)) W (by go_simp) ?_ ?_
          · exact .inl (Grows.refl _)
          · rfl
        | 15, _ =>
          have h14 : us 14 = .int .i64 ((n : Int) + 3) := hd 14 (by kernel_rfl)
          clear hd hq
          have hj := HJX.out.1
          have hi : ((n : Int) + 3).tmod 4 = (nc : Int) := by rw [Int.tmod_eq_emod_of_nonneg (by omega)]; exact HIX.out.2.2
          refine all_value rfl rfl (.int .i64 (nc : Int)) W (by go_simp) ?_ ?_
          · exact .inl (Grows.refl _)
          · rfl
        | 16, _ =>
          have h15 : us 15 = .int .i64 (nc : Int) := hd 15 (by kernel_rfl)
          clear hd hq
          have hj : nc < 4 := HJX.out.2.2.2
          have hj2 : (nc : Int) < 4 := by omega
          refine all_value rfl rfl (.pointer (some ⟨bA, nc * 3, none⟩)) W (by go_simp) ?_ ?_
          · exact .inl (Grows.refl _)
          · rfl
        | 17, _ =>
          have h16 : us 16 = .pointer (some ⟨bA, nc * 3, none⟩) := hd 16 (by kernel_rfl)
          clear hd hq
          have hp := (hg.block _ LA.out).trans HP3.out
          obtain ⟨q0, q1, q2⟩ := arrH_at hp nc HJX.out.2.2.2
          have hl := lt_of hp
          refine all_value rfl rfl (.agg #[.int .i64 (H nc).k, .int .i64 (H nc).g, (H nc).sl]) W (by go_simp) ?_ ?_
          · exact .inl (Grows.refl _)
          · rfl
        | 18, _ =>
          have h2 : us 2 = .agg #[.int .i64 (H n).k, .int .i64 (H n).g, (H n).sl] := hd 2 (by kernel_rfl)
          have h7 : us 7 = .agg #[.int .i64 (H na).k, .int .i64 (H na).g, (H na).sl] := hd 7 (by kernel_rfl)
          have h12 : us 12 = .agg #[.int .i64 (H nb).k, .int .i64 (H nb).g, (H nb).sl] := hd 12 (by kernel_rfl)
          have h17 : us 17 = .agg #[.int .i64 (H nc).k, .int .i64 (H nc).g, (H nc).sl] := hd 17 (by kernel_rfl)
          clear hd hq
          refine all_value rfl rfl (.slice (some ⟨W.heap.size, 0, none⟩) 4 4) (W.alloc (.cells #[.int .i64 (H n).k, .int .i64 (H n).g, (H n).sl, .int .i64 (H na).k, .int .i64 (H na).g, (H na).sl, .int .i64 (H nb).k, .int .i64 (H nb).g, (H nb).sl, .int .i64 (H nc).k, .int .i64 (H nc).g, (H nc).sl] 32)) (by go_simp) ?_ ?_
          · exact .inl (Grows.alloc _ _)
          · exact ⟨W.heap.size, _, rfl, World.alloc_heap_new _ _, rfl, by simp, HIN.out _ (thn hg (Grows.alloc _ _))⟩
        | 19, _ =>
          have h18 : Bs 32 [H n, H na, H nb, H nc] (us 18) W := hd 18 (by kernel_rfl)
          clear hd hq
          obtain ⟨b7, e7, hs⟩ := h18.hs (by simp)
          rw [e7] at hs
          have e7 : us 18 = .slice (some ⟨b7, 0, none⟩) 4 4 := e7
          refine all_call rfl rfl 15 #[.slice (some ⟨b7, 0, none⟩) 4 4] (by go_simp) ?_
          refine (HMG.out W b7 hs).mono ?_
          rintro e W' ⟨Aa, ca, rfl, hLa, hb⟩
          exact ⟨_, rfl, .inl hb, ⟨Aa, ca, rfl, hLa⟩⟩
        | 20, _ =>
          have h19 : Gq (kk : Int) 1 o3 0 (us 19) W := hd 19 (by kernel_rfl)
          clear hd hq
          refine all_value rfl rfl (us 19) W (by go_simp) ?_ ?_
          · exact .inl (Grows.refl _)
          · exact h19
        | 21, _ =>
          have h20 : Gq (kk : Int) 1 o3 0 (us 20) W := hd 20 (by kernel_rfl)
          clear hd hq
          obtain ⟨A', c', e9, hL⟩ := h20
          refine all_value rfl rfl (.agg #[.int .i64 (kk : Int), .int .i64 1, .slice A' o3.length c']) W (by go_simp) ?_ ?_
          · exact .inl (Grows.refl _)
          · exact ⟨A', c', rfl, hL⟩
        | 22, _ =>
          have h20 : Gq (kk : Int) 1 o3 0 (us 20) W := hd 20 (by kernel_rfl)
          clear hd hq
          obtain ⟨A', c', e9, hL⟩ := h20
          refine all_value rfl rfl (.int .i64 0) W (by go_simp) ?_ ?_
          · exact .inl (Grows.refl _)
          · rfl
        | 23, _ =>
          clear hd hq
          refine all_value rfl rfl (.pointer (some ⟨W.heap.size, 0, none⟩)) (W.alloc (.cells #[.int .i64 0, .int .i64 0, .slice none 0 0] 32)) (by go_simp) ?_ ?_
          · exact .inl (Grows.alloc _ _)
          · exact nw3_new hg.size _ _ _
        | 24, _ =>
          have h23 : Nw3 32 V1.heap.size (us 23) W := hd 23 (by kernel_rfl)
          have h21 : Hq (kk : Int) 1 o3 (us 21) W := hd 21 (by kernel_rfl)
          clear hd hq
          obtain ⟨A', c', e9, hL⟩ := h21
          obtain ⟨p, x0, x1, x2, e11, hp, hblk⟩ := h23
          obtain ⟨q0, q1, q2⟩ := box3 hblk
          have f0 : ∀ i, W.frozen? ⟨p, i, none⟩ = false := fun i => by simp [World.frozen?, hblk]
          have HBK := Lib.hid hblk
          have hlp := lt_of hblk
          clear hblk
          refine all_skip rfl rfl (((W.setCell ⟨p, 0, none⟩ (.int .i64 (kk : Int))).setCell ⟨p, 1, none⟩ (.int .i64 1)).setCell ⟨p, 2, none⟩ (.slice A' o3.length c')) (by go_simp) ?_ ?_
          · exact .inr ⟨32, rfl, by decide, by decide, st3_set hp HBK.out _ _ _⟩
          · exact ⟨p, A', c', e11, hp, set3 HBK.out _ _ _, levs_set3 (by decide) (by decide) HBK.out _ _ _ hL⟩
        | 25, _ =>
          have h22 : us 22 = .int .i64 0 := hd 22 (by kernel_rfl)
          clear hd hq
          refine all_value rfl rfl (.int .i64 0) W (by go_simp) ?_ ?_
          · exact .inl (Grows.refl _)
          · rfl
        | n + 26, h => exact absurd h (by simp)
      case hendC =>
        intro us W hg hf
        have h24 : Yg 32 V1.heap.size (kk : Int) 1 o3 (us 23) W := hf 24 (by simp)
        have h25 : us 25 = .int .i64 0 := hf 25 (by simp)
        clear hf
        obtain ⟨p2, A2, c2, e23, hp2, hb2, hL2⟩ := h24
        rw [h25, e23]
        rename World => V2
        have HP4 := Lib.hid ((hg.block _ LA.out).trans HP3.out)
        have HV2 := Lib.hid hb2
        have HV12 := Lib.hid ((hg.block _ (lt_of HV1.out)).trans HV1.out)
        have HLV2 := Lib.hid hL2
        have HLV12 := Lib.hid (HLV1.out.grow hg)
        have HB2 := Lib.hid (thn HB1.out hg)
        have HI6 : Hid (∀ i, i < 4 → (H i).In V2) := fun i hi => (HI5.out i hi).grow hg
        clear e23 h25 hb2 hL2 hg hp2 HP3 HV1 HLV1 HB1 HI5 HMG HIN LA HIX HJX HROT
        obtain ⟨⟨ac0, ac1, ac2⟩, ⟨ac3, ac4, ac5⟩, ⟨ac6, ac7, ac8⟩, ac9, acx, acy⟩ := arrH_all HP4.out
        have lA := lt_of HP4.out
        go_upto_region 15 with (go_at_call 15; refine (quad_any (H 3) (H 2) (H 1) (H 0) (by intro x hx; simp only [List.mem_cons, List.not_mem_nil, or_false] at hx; rcases hx with rfl | rfl | rfl | rfl <;> exact HGD.out _ (by omega)) (HPE.out _ (rev_perm (fun i => (H i).m))).1 (HPE.out _ (rev_perm (fun i => (H i).m))).2 _ (by intro x hx; simp only [List.mem_cons, List.not_mem_nil, or_false] at hx; rcases hx with rfl | rfl | rfl | rfl <;> exact HI6.out _ (by omega))).mono ?_; rintro e w8 ⟨A3, c3, rfl, hL8, hb8⟩; have HL8 := Lib.hid hL8; have HB8 := Lib.hid hb8; clear hL8 hb8)
        obtain ⟨V3, hV⟩ : ∃ W, w8.alloc (.cells #[.int .i64 (kk : Int), .int .i64 1, .slice A3 o3.length c3] 32) = W := ⟨_, rfl⟩
        have bV : Below w8.heap.size w8 V3 := by rw [← hV]; exact (Below.refl _ w8).alloc (Nat.le_refl _) _
        have pV : V3.heap[w8.heap.size]? = some (.cells #[.int .i64 (kk : Int), .int .i64 1, .slice A3 o3.length c3] 32) := by rw [← hV]; exact heap_alloc_new w8 _
        rw [hV]
        have hb3 := thn HB8.out bV
        have r1 := (hb3.block _ (lt_of HV12.out)).trans HV12.out
        have r2 := (hb3.block _ (lt_of HV2.out)).trans HV2.out
        have R1 := Lib.hid r1
        have R2 := Lib.hid r2
        have R3 := Lib.hid pV
        have L1 := Lib.hid (HLV12.out.grow hb3)
        have L2 := Lib.hid (HLV2.out.grow hb3)
        have L3 := Lib.hid (HL8.out.grow bV)
        have HB3 := Lib.hid (thn HB2.out hb3)
        obtain ⟨p3, hp3⟩ : ∃ b, w8.heap.size = b := ⟨_, rfl⟩
        rw [hp3] at R3 ⊢
        clear r1 r2 pV bV hV hb3 hp3 HL8 HB8 HV12 HV2 HLV12 HLV2 HB2 HP4 HI6 lA
        clear ac0 ac1 ac2 ac3 ac4 ac5 ac6 ac7 ac8 ac9 acx acy
        have hgo := HQ2.out
        have hln : o3.length ≤ 60 := Nat.le_trans hgo.made.len (by omega)
        have hlv : ∀ i, (lev o3 i).length ≤ 1000000 := fun i => Nat.le_trans (hgo.made.lev i) (by omega)
        have hsm : tot o3 ≤ 4503599627370496 := hgo.made.small
        have hchk : Lh.chk (kk : Int) 1 o3 = 0 := hgo.made.chkg hgo.early (by decide) (by decide)
        have hto : ∀ (W : World) (A : Option Addr) (c : Nat), Levs W W.heap.size (.slice A o3.length c) o3 → Calls Try.prog 14 #[.agg #[.int .i64 (kk : Int), .int .i64 1, .slice A o3.length c]] W fun e w' => e = .returned (.int .u64 (S : Int)) ∧ Below W.heap.size W w' := by
          intro W A c h
          have := total_any (kk : Int) 1 o3 hln (by omega) W A c h
          rw [HQ3.out] at this
          exact this
        have hsam : ∀ (W : World) (A1 A2 : Option Addr) (c1 c2 : Nat), Levs W W.heap.size (.slice A1 o3.length c1) o3 → Levs W W.heap.size (.slice A2 o3.length c2) o3 → Calls Try.prog 16 #[.agg #[.int .i64 (kk : Int), .int .i64 1, .slice A1 o3.length c1], .agg #[.int .i64 (kk : Int), .int .i64 1, .slice A2 o3.length c2]] W fun e w' => e = .returned (.bool true) ∧ Below W.heap.size W w' := by
          intro W A1 A2 c1 c2 h1 h2
          have := hsame_any (kk : Int) 1 (kk : Int) 1 o3 o3 (by omega) (fun i => Nat.le_trans (hlv i) (by omega)) W A1 A2 c1 c2 h1 h2
          rw [show sameB (kk : Int) 1 (kk : Int) 1 o3 o3 = true by simp [sameB]] at this
          exact this
        have hhi : ∀ (W : World) (A : Option Addr) (c : Nat), Levs W W.heap.size (.slice A o3.length c) o3 → Calls Try.prog 17 #[.agg #[.int .i64 (kk : Int), .int .i64 1, .slice A o3.length c]] W fun e w' => e = .returned (.int .i64 0) ∧ Below W.heap.size W w' := by
          intro W A c h
          have := hist_any (kk : Int) 1 o3 (by omega) hlv W A c h.reads
          rw [hchk] at this
          exact this
        have HTO := Lib.hid hto
        have HSA := Lib.hid hsam
        have HHI := Lib.hid hhi
        obtain ⟨M, hM'⟩ : ∃ x, o3.length = x := ⟨_, rfl⟩
        simp only [hM'] at HTO HSA HHI
        rw [hM'] at R1 R2 R3 L1 L2 L3
        have HMM := Lib.hid hM'
        clear hgo hln hlv hsm hchk hto hsam hhi hM' HQ2 HQ3 HPE HGD
        have HBA2 : Hid (w.heap.size ≤ w2.heap.size) := HW2.out.size
        have HWZ := Lib.hid (thn HW2.out HB3.out)
        obtain ⟨a0, a1, a2⟩ := box3 R1.out
        have la := lt_of R1.out
        go_wp2_with (first
          | (go_at_call 14; (with_reducible refine (HTO.out _ _ _ L1.out).mono ?_); rintro e u1 ⟨rfl, hb⟩; have G1 := Lib.hid hb; have m1 := (hb.block _ (lt_of R1.out)).trans R1.out; have m2 := (hb.block _ (lt_of R2.out)).trans R2.out; have N1 := Lib.hid m1; have N2 := Lib.hid m2; have N3 := Lib.hid ((hb.block _ (lt_of R3.out)).trans R3.out); have K1 := Lib.hid (L1.out.grow hb); have K2 := Lib.hid (L2.out.grow hb); have K3 := Lib.hid (L3.out.grow hb); obtain ⟨a0', a1', a2'⟩ := box3 m1; obtain ⟨b0', b1', b2'⟩ := box3 m2; have la' := lt_of m1; have lb' := lt_of m2; clear hb m1 m2)
          | (go_at_call 16; (with_reducible refine (HSA.out _ _ _ _ _ K1.out K2.out).mono ?_); rintro e u2 ⟨rfl, hb⟩; have G2 := Lib.hid hb; have m1 := (hb.block _ (lt_of N1.out)).trans N1.out; have m3 := (hb.block _ (lt_of N3.out)).trans N3.out; have O1 := Lib.hid m1; have J1 := Lib.hid (K1.out.grow hb); have J3 := Lib.hid (K3.out.grow hb); obtain ⟨a0'', a1'', a2''⟩ := box3 m1; obtain ⟨c0'', c1'', c2''⟩ := box3 m3; have la'' := lt_of m1; have lc'' := lt_of m3; clear hb m1 m3)
          | (go_at_call 16; (with_reducible refine (HSA.out _ _ _ _ _ J1.out J3.out).mono ?_); rintro e u3 ⟨rfl, hb⟩; have G3 := Lib.hid hb; have m1 := (hb.block _ (lt_of O1.out)).trans O1.out; have I1 := Lib.hid (J1.out.grow hb); obtain ⟨a03, a13, a23⟩ := box3 m1; have la3 := lt_of m1; clear hb m1)
          | (go_at_call 17; (with_reducible refine (HHI.out _ _ _ I1.out).mono ?_); rintro e u4 ⟨rfl, hb⟩; have G4 := Lib.hid hb; clear hb))
        go_ret
        exact ⟨rfl, thn HWZ.out (thn G1.out (thn G2.out (thn G3.out G4.out)))⟩

set_option maxRecDepth 100000 in
theorem lifted (os : Os) (started : os.Started) (H : Type) (enc : TypeId × Value → H) :
    ReturnsInHanded {} Try.checked os 4 .any (Rows.replaySumsSpec.pre6 enc Try.prog Try.f4 Rows.replaySumsRow.domain false) (Rows.replaySumsSpec.post enc Try.prog Try.f4 false true false false) := by
  refine returnsInHanded_of_change (C := Try.checked) own started (by kernel_rfl) Try.func4
    (ChangeSpec.witness6 (enc := enc) (C := Try.checked) false ⟨#[], #[.agg #[.int .i64 0, .slice none 0 0, .slice none 0 0, .slice none 0 0, .slice none 0 0, .int .u8 0], .int .u8 0], []⟩ 8 (by kernel_rfl) (by kernel_rfl) (by kernel_rfl) (by kernel_rfl)) ?_
  intro W base args ds gs before hval0 hW hcnd _
  have hval : ∀ (j : Nat) t v, Try.f4.params[j]? = some t → args[j]? = some v → Value.okWide Try.prog W .any base t v := hval0
  have hW' := hW
  obtain ⟨p, q, hA0, hV, rfl, hfz, hnd⟩ := hW
  have hA : DataW.TrodAll enc Try.prog W 0 (fun _ => true) true Try.f4.params.toList args.toList ds p := hA0
  rw [Try.params4] at hA hval
  obtain ⟨v0, vs0, d0, ds0, p0, q0, hargs, rfl, rfl, h0, r0⟩ := trodAll_cons hA
  obtain ⟨v1, vs1, d1, ds1, p1, q1, rfl, rfl, rfl, h1, r1⟩ := trodAll_cons r0
  obtain ⟨rfl, rfl, rfl⟩ := trodAll_nil r1
  obtain rfl : args = #[v0, v1] := by cases args; simp_all
  obtain ⟨rfl, rfl⟩ := trodVars_none hV
  have k0 := h0
  have lt0 : ∀ x ∈ p0, x.block < W.heap.size := by obtain ⟨m, hm⟩ := k0; exact DataW.trod_lt m _ _ _ hm
  obtain ⟨a0_0, a0_5, a0, len0, cap0, z0, rfl, w0_0, w0_5, w0⟩ := Op.open_tree (f := 9) (e1 := 31) (e := 72) Try.underlying38 (by kernel_rfl) (by kernel_rfl) (by kernel_rfl) (by kernel_rfl) ⟨rfl, rfl, rfl⟩ ⟨by kernel_rfl, by kernel_rfl, by kernel_rfl⟩ (by kernel_rfl) (by kernel_rfl) (by kernel_rfl) (by kernel_rfl) (hval 0 38 v0 rfl rfl) h0
  obtain ⟨a1, rfl, rfl, rfl, w1⟩ := open_int Try.underlying5 (hval 1 5 v1 rfl rfl) h1
  clear hA0 hval0
  refine (walk a0_0 a0_5 a0 len0 cap0 z0 a1 W w0_0 w0_5 w0 w1).mono fun e W' ⟨he, bel⟩ => ?_
  subst he
  exact ⟨_, rfl, _, _, _, [], _, [], hW', trodAll_mk1 (shut_bool Try.underlying4 _), (trodAll_cons_mk (Below.trod laidOut (by kernel_rfl) (of_decide_eq_true (by kernel_rfl)) k0 bel lt0) (trodAll_cons_mk (shut_int Try.underlying5 w1) trodAll_mk0)), rfl, bel.frame _, fun h => by cases h⟩

theorem over : Rows.replaySumsRow.holds Try.pinned (OpenSpec.ofChange Rows.replaySumsSpec) :=
  OpenClaim.holds_of_wide 4 Try.f4 rfl rfl rfl rfl rfl rfl rfl ⟨rfl, rfl, rfl, rfl, rfl⟩ rfl rfl rfl rfl rfl (by kernel_rfl) Try.func4 (by kernel_rfl)
    (of_decide_eq_true (by kernel_rfl)) (by unfold Func.isWrapper; first | (rw [if_pos (by decide +kernel)]; kernel_rfl) | (rw [if_neg (by decide +kernel)]; exact ⟨rfl, rfl⟩))
    (fun os started H enc _ => lifted os started H enc)

/-- The statement. -/
theorem proved : Rows.ReplaySumsSaid := over
#print axioms proved
end Go.Proofs.Ytpdhkpgnajfobaa.replaySums
