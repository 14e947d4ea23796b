/-
  'skylight/skylightlaw08.EstimateParts' returns true for every input, and the input reads afterwards as it read before. Conditions: none.
-/
import Derived.Test.YthmbmiikhghaoaaRows
import Derived.WalkKit
import Derived.ProofKit
import Derived.OpenShut
import Derived.ShutString
import Derived.ChangeOld
import Derived.Below
import Derived.Test.YthmbmiikhghaoaaOpen
import Derived.Test.YthmbmiikhghaoaaEsAwk
namespace Go.Proofs.Ythmbmiikhghaoaa.estimateParts
open Go.Proofs Go.Proofs.Rn Go.Proofs.Lm Go.Proofs.Op Go.Proofs.Rw Go.Proofs.Lh Go.Proofs.Rf
open Go.ChangeShapes Go.WideShapes Go.ChangeAt Go.RowKit
open Go.ChangeMaps (open_string shut_string)
set_option linter.unusedVariables false

theorem own : ownKnob Try.prog.godebug = none := by kernel_rfl
theorem laidOut : laidOutB Try.prog = true := by kernel_rfl

/-- A slice of integers that came in: nil, or a row of cells of its capacity, each fitting its kind. -/
def IsRow (k : IntKind) (w : World) (a : Option Addr) (len cap : Nat) (zs : List Int) : Prop :=
  (a = none ∧ len = 0 ∧ cap = 0 ∧ zs = []) ∨
  ∃ x, a = some x ∧ len ≤ cap ∧ cap ≤ maxLen ∧ zs.length = cap ∧ (∀ i, i < zs.length → w.cell? (x.add i) = some (.int k (zs.getD i 0))) ∧ ∀ n ∈ zs, (Lit.int k n).wf = true

theorem fit2_of {c : List Value} (h : Op.Fits [.u64, .u64] c) : ∃ x0 x1 : Int, c = [.int .u64 x0, .int .u64 x1] ∧ (Lit.int .u64 x0).wf = true ∧ (Lit.int .u64 x1).wf = true := by
  cases c with
  | nil => exact h.elim
  | cons y0 c =>
  have g0 := h.1
  replace h := h.2
  cases c with
  | nil => exact h.elim
  | cons y1 c =>
  have g1 := h.1
  replace h := h.2
  cases c with
  | cons y c => exact h.elim
  | nil =>
  obtain ⟨x0, e0, e0w⟩ := g0
  obtain ⟨x1, e1, e1w⟩ := g1
  exact ⟨x0, x1, by rw [e0, e1], e0w, e1w⟩

open Go.RowKit Go.Shelf Go.Proofs.Rw Go.Proofs.Lh Go.Proofs.Rf

set_option maxRecDepth 100000 in
set_option maxHeartbeats 4000000 in
theorem walk (a0 : Int) (a1 : Option Addr) (len1 cap1 : Nat) (z1 : Nat → Nat → Int) (a2_0 a2_1 : Int) (w : World) (w0 : (Lit.int .i64 a0).wf = true) (w1 : Op.FlatRow [.u64, .u64] w a1 len1 cap1 z1) (w2_0 : (Lit.int .u64 a2_0).wf = true) (w2_1 : (Lit.int .u64 a2_1).wf = true) :
    Calls Try.prog 5 #[.int .i64 a0, .slice a1 len1 cap1, .agg #[.int .u64 a2_0, .int .u64 a2_1]] w fun e w' => e = .returned (.bool true) ∧ Below w.heap.size w w' := by
  obtain ⟨ds, hdl1, hdL1, hdB1⟩ := sp_of_row w1
  have hD1 : Deeds w a1 len1 cap1 ds := ⟨hdl1, hdL1, hdB1⟩
  obtain ⟨b00, b01⟩ := bounds_i64 w0
  have hk1 := kOf_le a0
  have hdn1 : doneN ds ≤ ds.length := by unfold doneN; omega
  have hmd : Made (kOf a0) (play (kOf a0) ds (doneN ds)).2 := play_made hk1.1 (by omega) ds _ hdn1
  have hma := fun (W : World) (hW : Below w.heap.size w W) => rmade_any a0 b00 (by omega) ds W a1 len1 cap1 (hD1.grow hW)
  obtain ⟨c00, c01⟩ := bounds_u64 w2_0
  obtain ⟨n0, rfl⟩ : ∃ n : Nat, a2_0 = (n : Int) := ⟨a2_0.toNat, by omega⟩
  have hb0 : n0 < 18446744073709551616 := by omega
  clear c00 c01 w2_0
  obtain ⟨c10, c11⟩ := bounds_u64 w2_1
  obtain ⟨n1, rfl⟩ : ∃ n : Nat, a2_1 = (n : Int) := ⟨a2_1.toNat, by omega⟩
  have hb1 : n1 < 18446744073709551616 := by omega
  clear c10 c11 w2_1
  have hbo := And.intro (play_bound hk1.1 (by omega) (with_up n0 n1) ds (doneN ds) hdn1) (exact_le (kOf a0) (withB n0 n1) ds (doneN ds) hdn1)
  have hex := fun (W : World) (hW : Below w.heap.size w W) => exact_any a0 b00 (by omega) ds n0 n1 hb0 W a1 len1 cap1 (hD1.grow hW)
  obtain ⟨kk, hkk⟩ : ∃ x, kOf a0 = x := ⟨_, rfl⟩
  rw [hkk] at hmd
  simp only [hkk] at hma
  obtain ⟨L, hL⟩ : ∃ x, (play kk ds (doneN ds)).2 = x := ⟨_, rfl⟩
  rw [hL] at hmd
  simp only [hL] at hma
  obtain ⟨N, hN⟩ : ∃ x, L.length = x := ⟨_, rfl⟩
  simp only [hN] at hma
  have hln : N ≤ 53 := by have := hmd.len; omega
  have HMA := Lib.hid hma
  have HN := Lib.hid hN
  have HMD := Lib.hid hmd
  simp only [hkk] at hbo hex
  simp only [hL] at hbo
  obtain ⟨rl, hrl⟩ : ∃ x, exactN kk (withB n0 n1) ds (doneN ds) = x := ⟨_, rfl⟩
  simp only [hrl] at hbo hex
  clear hrl
  have HBO := Lib.hid hbo
  have HEX := Lib.hid hex
  clear hbo hex
  clear hma hmd hN hD1 hdl1 hdL1 hdB1 hkk hL w1 hdn1 hk1 w0
  have hbx : (w.alloc (.cells #[.int .u64 (n0 : Int), .int .u64 (n1 : Int)] 24)).heap[w.heap.size]? = some (.cells #[.int .u64 (n0 : Int), .int .u64 (n1 : Int)] 24) := heap_alloc_new w _
  have HBX := Lib.hid hbx
  clear hbx
  go_enter Try.func5, Try.ntmps5
  go_upto_region 3 with (first
    | (go_at_call 8; refine (awake_any _).mono ?_; rintro e wa ⟨rfl, ha⟩; have t := (ha.block w.heap.size (by simp)).trans HBX.out; have HX := Lib.hid t; have HLX := Lib.hid (lt_of t); have HWA := Lib.hid (((Below.refl _ w).alloc (Nat.le_refl _) _).trans (ha.mono (by simp))); clear ha t)
    | (go_at_call 9; refine (HMA.out wa HWA.out).mono ?_; rintro e wc ⟨A, c, rfl, hL, hb⟩; have HL1 := Lib.hid hL; have HB1 := Lib.hid hb; clear hL hb))
  have HL2 := HL1
  have HB2 := HB1
  obtain ⟨W4, hW4⟩ : ∃ W, wc.alloc (.cells #[.int .i64 (kk : Int), .int .i64 0, .slice A N c] 28) = W := ⟨_, rfl⟩
  have hB4 : Below wc.heap.size wc W4 := by rw [← hW4]; exact (Below.refl _ wc).alloc (Nat.le_refl _) _
  have pH : W4.heap[wc.heap.size]? = some (.cells #[.int .i64 (kk : Int), .int .i64 0, .slice A N c] 28) := by rw [← hW4]; exact heap_alloc_new wc _
  have pX := (hB4.block _ (Nat.lt_of_lt_of_le HLX.out HB2.out.size)).trans ((HB2.out.block _ HLX.out).trans HX.out)
  rw [hW4]
  obtain ⟨bX, hbX⟩ : ∃ b, w.heap.size = b := ⟨_, rfl⟩
  obtain ⟨bH, hbH⟩ : ∃ b, wc.heap.size = b := ⟨_, rfl⟩
  rw [hbX] at pX ⊢
  rw [hbH] at pH ⊢
  have HL4 := Lib.hid (HL2.out.grow hB4)
  have HB4 := Lib.hid (thn (thn HWA.out HB2.out) hB4)
  have PH := Lib.hid pH
  have PX := Lib.hid pX
  have LH := Lib.hid (lt_of pH)
  have LX := Lib.hid (lt_of pX)
  obtain ⟨y0, y1, y2⟩ := box3 pH
  have Y0 := Lib.hid y0
  have Y1 := Lib.hid y1
  have Y2 := Lib.hid y2
  have x0 : W4.cell? ⟨bX, 0, none⟩ = some (.int .u64 (n0 : Int)) := by simp [World.cell?, pX]
  have X0 := Lib.hid x0
  have x1 : W4.cell? ⟨bX, 1, none⟩ = some (.int .u64 (n1 : Int)) := by simp [World.cell?, pX]
  have X1 := Lib.hid x1
  clear x0 x1 y0 y1 y2 pH pX hW4 hB4 hbX hbH HL1 HL2 HB1 HB2 HWA HX HLX HMA HBX
  obtain ⟨s, hs⟩ : ∃ x, sureL (withB n0 n1) 0 L = x := ⟨_, rfl⟩
  obtain ⟨y, hy⟩ : ∃ x, cutS (withB n0 n1) 0 L = x := ⟨_, rfl⟩
  obtain ⟨es, hes⟩ : ∃ x, estL (withB n0 n1) L = x := ⟨_, rfl⟩
  have hsy : s + y ≤ tot L := by
    have := parts_le (withB n0 n1) L 0
    rw [tot_eq, hs, hy] at this
    exact this
  have CP' : ∀ W : World, Grows W4 W → Calls Try.prog 10 #[.agg #[.int .i64 (kk : Int), .int .i64 0, .slice A N c], .int .u64 (n0 : Int), .int .u64 (n1 : Int)] W fun e w' => e = .returned (.tuple #[.int .u64 (s : Int), .int .u64 (y : Int)]) ∧ Below W.heap.size W w' := by
    intro W hW
    have := parts_any (kk : Int) 0 L (by have := HMD.out.len; omega) (fun i => by have := HMD.out.lev i; omega) (by have := HMD.out.small; omega) n0 n1 (by omega) W A c (by rw [HN.out]; exact HL4.out.grow hW)
    rw [hs, hy, HN.out] at this
    exact this
  have CP := Lib.hid CP'
  clear CP'
  refine region_facts0 (fr := ?frA) 7 [17, 18, 19, 20, 21, 22, 23] (fun i v W => match i with
      | 0 => v = .agg #[.int .i64 (kk : Int), .int .i64 0, .slice A N c]
      | 1 => v = .agg #[.int .i64 (kk : Int), .int .i64 0, .slice A N c]
      | 2 => v = .pointer (some ⟨bX, 0, none⟩)
      | 3 => v = .int .u64 (n0 : Int)
      | 4 => v = .pointer (some ⟨bX, 1, none⟩)
      | 5 => v = .int .u64 (n1 : Int)
      | 6 => v = .tuple #[.int .u64 (s : Int), .int .u64 (y : Int)]
      | _ => True) rfl ?hBA (by kernel_rfl) (by kernel_rfl) (by kernel_rfl) ?hfrA ?hFA ?hopA ?htailA
  case hBA => kernel_rfl
  case hfrA =>
    intro us
    simp only [putL]
    go_simp
    rfl
  case hFA =>
    intro i v W W' hG h
    match i with
    | 0 => exact h
    | 1 => exact h
    | 2 => exact h
    | 3 => exact h
    | 4 => exact h
    | 5 => exact h
    | 6 => exact h
    | n + 7 => trivial
  case hopA =>
    intro i hi us W2 hG hd
    match i, hi with
    | 0, _ =>
      clear hd
      have q0 := (hG.cell (b := bH) (o := 0) LH.out).trans Y0.out
      have q0l := Nat.lt_of_lt_of_le LH.out hG.size
      have q1 := (hG.cell (b := bH) (o := 1) LH.out).trans Y1.out
      have q1l := Nat.lt_of_lt_of_le LH.out hG.size
      have q2 := (hG.cell (b := bH) (o := 2) LH.out).trans Y2.out
      have q2l := Nat.lt_of_lt_of_le LH.out hG.size
      exact hop_value rfl rfl rfl (v := .agg #[.int .i64 (kk : Int), .int .i64 0, .slice A N c]) (W' := W2) (by go_simp) (Grows.refl _) rfl
    | 1, _ =>
      have h0 : us 0 = .agg #[.int .i64 (kk : Int), .int .i64 0, .slice A N c] := hd 0 (by omega) (by kernel_rfl)
      clear hd
      refine hop_call rfl rfl rfl (f := 11) (args := #[.agg #[.int .i64 (kk : Int), .int .i64 0, .slice A N c]]) (by go_simp) ?_
      refine (lmade_any _ _ _ _ _ W2).mono ?_
      rintro e W' ⟨rfl, hb⟩
      exact ⟨_, rfl, hb, rfl⟩
    | 2, _ =>
      clear hd
      exact hop_value rfl rfl rfl (v := .pointer (some ⟨bX, 0, none⟩)) (W' := W2) (by go_simp) (Grows.refl _) rfl
    | 3, _ =>
      have h2 : us 2 = .pointer (some ⟨bX, 0, none⟩) := hd 2 (by omega) (by kernel_rfl)
      clear hd
      have q := (hG.cell (b := bX) (o := 0) LX.out).trans X0.out
      have ql := Nat.lt_of_lt_of_le LX.out hG.size
      exact hop_value rfl rfl rfl (v := .int .u64 (n0 : Int)) (W' := W2) (by go_simp) (Grows.refl _) rfl
    | 4, _ =>
      clear hd
      exact hop_value rfl rfl rfl (v := .pointer (some ⟨bX, 1, none⟩)) (W' := W2) (by go_simp) (Grows.refl _) rfl
    | 5, _ =>
      have h4 : us 4 = .pointer (some ⟨bX, 1, none⟩) := hd 4 (by omega) (by kernel_rfl)
      clear hd
      have q := (hG.cell (b := bX) (o := 1) LX.out).trans X1.out
      have ql := Nat.lt_of_lt_of_le LX.out hG.size
      exact hop_value rfl rfl rfl (v := .int .u64 (n1 : Int)) (W' := W2) (by go_simp) (Grows.refl _) rfl
    | 6, _ =>
      have h1 : us 1 = .agg #[.int .i64 (kk : Int), .int .i64 0, .slice A N c] := hd 1 (by omega) (by kernel_rfl)
      have h3 : us 3 = .int .u64 (n0 : Int) := hd 3 (by omega) (by kernel_rfl)
      have h5 : us 5 = .int .u64 (n1 : Int) := hd 5 (by omega) (by kernel_rfl)
      clear hd
      refine hop_call rfl rfl rfl (f := 10) (args := #[.agg #[.int .i64 (kk : Int), .int .i64 0, .slice A N c], .int .u64 (n0 : Int), .int .u64 (n1 : Int)]) (by go_simp) ?_
      refine (CP.out W2 hG).mono ?_
      rintro e W' ⟨rfl, hb⟩
      exact ⟨_, rfl, hb, rfl⟩
    | d + 7, h => exact absurd h (by omega)
  case htailA =>
    intro us W2 hG hf
    have hz : us 6 = .tuple #[.int .u64 (s : Int), .int .u64 (y : Int)] := hf 6 (by omega)
    clear hf
    rw [hz]
    have HG2 := Lib.hid hG
    clear hz hG
    simp only [List.drop_succ_cons, List.drop_zero]
    repeat (go_big_quiet_step (fail))
    refine wpQuiet_nil ?_
    rintro w' ⟨nq, rfl⟩
    have HG5 := Lib.hid (below_drewN HG2.out nq)
    clear HG2
    generalize W2.drewN nq = w5 at *
    have tH := (HG5.out.block bH LH.out).trans PH.out
    have tX := (HG5.out.block bX LX.out).trans PX.out
    obtain ⟨y0, y1, y2⟩ := box3 tH
    have v0 : w5.cell? ⟨bX, 0, none⟩ = some (.int .u64 (n0 : Int)) := by simp [World.cell?, tX]
    have v1 : w5.cell? ⟨bX, 1, none⟩ = some (.int .u64 (n1 : Int)) := by simp [World.cell?, tX]
    have lH := lt_of tH
    have lX := lt_of tX
    have hx5 := HEX.out w5 (thn HB4.out HG5.out)
    have HX5 := Lib.hid hx5
    clear hx5
    go_upto_region 5 with (go_at_call 15; refine HX5.out.mono ?_; rintro e w6 ⟨rfl, hb6⟩; have HB6 := Lib.hid hb6; clear hb6)
    have HGA := Lib.hid (thn HG5.out HB6.out)
    clear y0 y1 y2 v0 v1 lH lX tH tX
    have tH := (HGA.out.block bH LH.out).trans PH.out
    have tX := (HGA.out.block bX LX.out).trans PX.out
    obtain ⟨y0, y1, y2⟩ := box3 tH
    have v0 : w6.cell? ⟨bX, 0, none⟩ = some (.int .u64 (n0 : Int)) := by simp [World.cell?, tX]
    have v1 : w6.cell? ⟨bX, 1, none⟩ = some (.int .u64 (n1 : Int)) := by simp [World.cell?, tX]
    have lH := lt_of tH
    have lX := lt_of tX
    obtain ⟨⟨-, u3, u4⟩, u5⟩ := HBO.out
    rw [hs] at u3
    rw [hs, hy] at u4
    have sm := HMD.out.small
    have le : s + y ≤ tot L := hsy
    have d1 : decide (s ≤ rl) = true := by simpa using u3
    have b1 : (s : Int) + (y : Int) ≤ 18446744073709551615 := by omega
    obtain ⟨q, hq⟩ : ∃ x : Nat, s + y = x := ⟨_, rfl⟩
    have f1 : (s : Int) + (y : Int) = (q : Int) := by omega
    rw [hq] at u4
    have d2 : decide (rl ≤ q) = true := by simpa using u4
    rcases Nat.eq_zero_or_pos y with h0 | h0
    · have g1 : decide (0 < y) = false := by simp; omega
      have e : s = rl := by omega
      subst e
      clear u3 u4 u5 sm le hq d1 h0
      go_wp2
      go_ret
      exact ⟨rfl, thn HB4.out HGA.out⟩
    · have g1 : decide (0 < y) = true := by simpa using h0
      clear u3 u4 u5 sm le hq
      go_wp2
      go_ret
      exact ⟨rfl, thn HB4.out HGA.out⟩

set_option maxRecDepth 100000 in
theorem lifted (os : Os) (started : os.Started) (H : Type) (enc : TypeId × Value → H) :
    ReturnsInHanded {} Try.checked os 5 .any (Rows.estimatePartsSpec.pre6 enc Try.prog Try.f5 Rows.estimatePartsRow.domain false) (Rows.estimatePartsSpec.post enc Try.prog Try.f5 false true false false) := by
  refine returnsInHanded_of_change (C := Try.checked) own started (by kernel_rfl) Try.func5
    (ChangeSpec.witness6 (enc := enc) (C := Try.checked) false ⟨#[], #[.int .i64 0, .slice none 0 0, .agg #[.int .u64 0, .int .u64 0]], []⟩ 8 (by kernel_rfl) (by kernel_rfl) (by kernel_rfl) (by kernel_rfl)) ?_
  intro W base args ds gs before hval0 hW hcnd _
  have hval : ∀ (j : Nat) t v, Try.f5.params[j]? = some t → args[j]? = some v → Value.okWide Try.prog W .any base t v := hval0
  have hW' := hW
  obtain ⟨p, q, hA0, hV, rfl, hfz, hnd⟩ := hW
  have hA : DataW.TrodAll enc Try.prog W 0 (fun _ => true) true Try.f5.params.toList args.toList ds p := hA0
  rw [Try.params5] at hA hval
  obtain ⟨v0, vs0, d0, ds0, p0, q0, hargs, rfl, rfl, h0, r0⟩ := trodAll_cons hA
  obtain ⟨v1, vs1, d1, ds1, p1, q1, rfl, rfl, rfl, h1, r1⟩ := trodAll_cons r0
  obtain ⟨v2, vs2, d2, ds2, p2, q2, rfl, rfl, rfl, h2, r2⟩ := trodAll_cons r1
  obtain ⟨rfl, rfl, rfl⟩ := trodAll_nil r2
  obtain rfl : args = #[v0, v1, v2] := by cases args; simp_all
  obtain ⟨rfl, rfl⟩ := trodVars_none hV
  obtain ⟨a0, rfl, rfl, rfl, w0⟩ := open_int Try.underlying3 (hval 0 3 v0 rfl rfl) h0
  obtain ⟨a1, len1, cap1, rfl⟩ := okWide_slice Try.underlying22 (hval 1 22 v1 rfl rfl)
  have k1 := h1
  have lt1 : ∀ x ∈ p1, x.block < W.heap.size := by obtain ⟨m, hm⟩ := k1; exact DataW.trod_lt m _ _ _ hm
  obtain ⟨z1, w1⟩ := Op.open_flats (f := 9) (ks := [.u64, .u64]) Try.underlying22 (by kernel_rfl) (by kernel_rfl) (by decide) h1
  have k2 := h2
  have lt2 : ∀ x ∈ p2, x.block < W.heap.size := by obtain ⟨m, hm⟩ := k2; exact DataW.trod_lt m _ _ _ hm
  obtain ⟨c2, rfl, fit2⟩ := Op.open_flat (f := 9) (ks := [.u64, .u64]) (by kernel_rfl) (by kernel_rfl) (hval 2 24 v2 rfl rfl) h2
  obtain ⟨a2_0, a2_1, rfl, w2_0, w2_1⟩ := fit2_of fit2
  clear hA0 hval0
  refine (walk a0 a1 len1 cap1 z1 a2_0 a2_1 W w0 w1 w2_0 w2_1).mono fun e W' ⟨he, bel⟩ => ?_
  subst he
  exact ⟨_, rfl, _, _, _, [], _, [], hW', trodAll_mk1 (shut_bool Try.underlying4 _), (trodAll_cons_mk (shut_int Try.underlying3 w0) (trodAll_cons_mk (Below.trod laidOut (by kernel_rfl) (of_decide_eq_true (by kernel_rfl)) k1 bel lt1) (trodAll_cons_mk (Below.trod laidOut (by kernel_rfl) (of_decide_eq_true (by kernel_rfl)) k2 bel lt2) trodAll_mk0))), rfl, bel.frame _, fun h => by cases h⟩

theorem over : Rows.estimatePartsRow.holds Try.pinned (OpenSpec.ofChange Rows.estimatePartsSpec) :=
  OpenClaim.holds_of_wide 5 Try.f5 rfl rfl rfl rfl rfl rfl rfl ⟨rfl, rfl, rfl, rfl, rfl⟩ rfl rfl rfl rfl rfl (by kernel_rfl) Try.func5 (by kernel_rfl)
    (of_decide_eq_true (by kernel_rfl)) (by unfold Func.isWrapper; first | (rw [if_pos (by decide +kernel)]; kernel_rfl) | (rw [if_neg (by decide +kernel)]; exact ⟨rfl, rfl⟩))
    (fun os started H enc _ => lifted os started H enc)

/-- The statement. -/
theorem proved : Rows.EstimatePartsSaid := over
#print axioms proved
end Go.Proofs.Ythmbmiikhghaoaa.estimateParts
