/-
  'skylight/skylightlaw13.ScanColumns' returns true for every input, and the input reads afterwards as it read before. Conditions: none.
-/
import Derived.Test.YthncmjimfkbofaaRows
import Derived.WalkKit
import Derived.ProofKit
import Derived.OpenShut
import Derived.ShutString
import Derived.ChangeOld
import Derived.Below
import Derived.Test.YthncmjimfkbofaaJ02
import Derived.Test.YthncmjimfkbofaaJ18
namespace Go.Proofs.Ythncmjimfkbofaa.scanColumns
open Go.Proofs Go.Proofs.Lm Go.Proofs.Lh Go.Proofs.Rn Go.Proofs.Op Go.Proofs.Rw Go.Proofs.Rf Go.Proofs.Bu Go.Proofs.Sc Go.Proofs.Wm
open Go.ChangeShapes Go.WideShapes Go.ChangeAt Go.RowKit
open Go.ChangeMaps (open_string shut_string)
set_option linter.unusedVariables false

theorem own : ownKnob Try.prog.godebug = none := by kernel_rfl
theorem laidOut : laidOutB Try.prog = true := by kernel_rfl

/-- A slice of integers that came in: nil, or a row of cells of its capacity, each fitting its kind. -/
def IsRow (k : IntKind) (w : World) (a : Option Addr) (len cap : Nat) (zs : List Int) : Prop :=
  (a = none ∧ len = 0 ∧ cap = 0 ∧ zs = []) ∨
  ∃ x, a = some x ∧ len ≤ cap ∧ cap ≤ maxLen ∧ zs.length = cap ∧ (∀ i, i < zs.length → w.cell? (x.add i) = some (.int k (zs.getD i 0))) ∧ ∀ n ∈ zs, (Lit.int k n).wf = true

theorem fit1_of {c : List Value} (h : Op.Fits [.u64, .u64] c) : ∃ x0 x1 : Int, c = [.int .u64 x0, .int .u64 x1] ∧ (Lit.int .u64 x0).wf = true ∧ (Lit.int .u64 x1).wf = true := by
  cases c with
  | nil => exact h.elim
  | cons y0 c =>
  have g0 := h.1
  replace h := h.2
  cases c with
  | nil => exact h.elim
  | cons y1 c =>
  have g1 := h.1
  replace h := h.2
  cases c with
  | cons y c => exact h.elim
  | nil =>
  obtain ⟨x0, e0, e0w⟩ := g0
  obtain ⟨x1, e1, e1w⟩ := g1
  exact ⟨x0, x1, by rw [e0, e1], e0w, e1w⟩

theorem fit2_of {c : List Value} (h : Op.Fits [.u64, .u64, .i64, .i64] c) : ∃ x0 x1 x2 x3 : Int, c = [.int .u64 x0, .int .u64 x1, .int .i64 x2, .int .i64 x3] ∧ (Lit.int .u64 x0).wf = true ∧ (Lit.int .u64 x1).wf = true ∧ (Lit.int .i64 x2).wf = true ∧ (Lit.int .i64 x3).wf = true := by
  cases c with
  | nil => exact h.elim
  | cons y0 c =>
  have g0 := h.1
  replace h := h.2
  cases c with
  | nil => exact h.elim
  | cons y1 c =>
  have g1 := h.1
  replace h := h.2
  cases c with
  | nil => exact h.elim
  | cons y2 c =>
  have g2 := h.1
  replace h := h.2
  cases c with
  | nil => exact h.elim
  | cons y3 c =>
  have g3 := h.1
  replace h := h.2
  cases c with
  | cons y c => exact h.elim
  | nil =>
  obtain ⟨x0, e0, e0w⟩ := g0
  obtain ⟨x1, e1, e1w⟩ := g1
  obtain ⟨x2, e2, e2w⟩ := g2
  obtain ⟨x3, e3, e3w⟩ := g3
  exact ⟨x0, x1, x2, x3, by rw [e0, e1, e2, e3], e0w, e1w, e2w, e3w⟩

open Go.RowKit Go.Shelf Go.Proofs.Rw Go.Proofs.Lh Go.Proofs.Bu Go.Proofs.Sc Go.Proofs.Wm
set_option linter.unusedVariables false
theorem cols_cast (p : Ev → Bool) (l : List Ev) (f : Nat → Int) (hf : ∀ x, 0 ≤ f x) (c : Nat) : sumP (fun e => p e && decide (f e.2.1 = (c : Int))) l = sumP (fun e => p e && decide ((f e.2.1).toNat = c)) l :=
  sumP_congr fun e _ => by
    have h := hf e.2.1
    have : (f e.2.1 = (c : Int)) ↔ (f e.2.1).toNat = c := by omega
    simp only [this]
theorem cols_sum (p : Ev → Bool) (l : List Ev) (f : Nat → Int) (m : Nat) (hf : ∀ x, 0 ≤ f x) (hm : ∀ x, f x < (m : Int)) : colsN (fun i => sumP (fun e => p e && decide ((f e.2.1).toNat = i)) l) m = sumP p l := by
  rw [cols_all (c := fun e => (f e.2.1).toNat)]
  refine sumP_congr fun e _ => ?_
  have h1 := hf e.2.1
  have h2 := hm e.2.1
  have : (f e.2.1).toNat < m := by omega
  simp [this]
theorem cols_none (p : Ev → Bool) (l : List Ev) (f : Nat → Int) (m : Nat) (hm : ∀ x, f x < (m : Int)) : sumP (fun e => p e && decide (f e.2.1 = (m : Int))) l = 0 := by
  rw [sumP_congr (q := fun _ => false), sumP_false]
  intro e _
  have h2 := hm e.2.1
  have : ¬ f e.2.1 = (m : Int) := by omega
  simp [this]

set_option maxRecDepth 100000 in
set_option maxHeartbeats 4000000 in
theorem walk (a0 : Option Addr) (len0 cap0 : Nat) (z0 : Nat → Nat → Int) (a1_0 a1_1 : Int) (a2_0 a2_1 a2_2 a2_3 : Int) (w : World) (w0 : Op.FlatRow [.u64, .u64, .u64] w a0 len0 cap0 z0) (w1_0 : (Lit.int .u64 a1_0).wf = true) (w1_1 : (Lit.int .u64 a1_1).wf = true) (w2_0 : (Lit.int .u64 a2_0).wf = true) (w2_1 : (Lit.int .u64 a2_1).wf = true) (w2_2 : (Lit.int .i64 a2_2).wf = true) (w2_3 : (Lit.int .i64 a2_3).wf = true) :
    Calls Try.prog 6 #[.slice a0 len0 cap0, .agg #[.int .u64 a1_0, .int .u64 a1_1], .agg #[.int .u64 a2_0, .int .u64 a2_1, .int .i64 a2_2, .int .i64 a2_3]] w fun e w' => e = .returned (.bool true) ∧ Below w.heap.size w w' := by
  obtain ⟨xs, hxl, hx, hxv⟩ := ev_of_row w0
  obtain ⟨q0l, q0u⟩ := bounds_u64 w1_0
  obtain ⟨q1l, q1u⟩ := bounds_u64 w1_1
  obtain ⟨n0, rfl⟩ : ∃ l : Nat, a1_0 = l := ⟨a1_0.toNat, by omega⟩
  obtain ⟨n1, rfl⟩ : ∃ l : Nat, a1_1 = l := ⟨a1_1.toNat, by omega⟩
  have hn0 : n0 < 18446744073709551616 := by omega
  have hn1 : n1 < 18446744073709551616 := by omega
  obtain ⟨r0l, r0u⟩ := bounds_u64 w2_0
  obtain ⟨r1l, r1u⟩ := bounds_u64 w2_1
  obtain ⟨r2l, r2u⟩ := bounds_i64 w2_2
  obtain ⟨r3l, r3u⟩ := bounds_i64 w2_3
  obtain ⟨sa, rfl⟩ : ∃ l : Nat, a2_0 = l := ⟨a2_0.toNat, by omega⟩
  obtain ⟨sb, rfl⟩ : ∃ l : Nat, a2_1 = l := ⟨a2_1.toNat, by omega⟩
  have hsa : sa < 18446744073709551616 := by omega
  have hsb : sb < 18446744073709551616 := by omega
  obtain ⟨k, hk⟩ : ∃ k, a2_2 = k := ⟨_, rfl⟩
  obtain ⟨g, hg⟩ : ∃ k, a2_3 = k := ⟨_, rfl⟩
  rw [hk] at r2l r2u ⊢
  rw [hg] at r3l r3u ⊢
  obtain ⟨W0, hW0, hsz, p0, p1, b0⟩ := heap_two w (.cells #[.int .u64 (n0 : Int), .int .u64 (n1 : Int)] 45) (.cells #[.int .u64 (sa : Int), .int .u64 (sb : Int), .int .i64 k, .int .i64 g] 49)
  have l0 : w.heap.size < W0.heap.size := lt_of p0
  have l1 : w.heap.size + 1 < W0.heap.size := lt_of p1
  have x0 : W0.cell? ⟨w.heap.size, 0, none⟩ = some (.int .u64 (n0 : Int)) := by simp [World.cell?, p0]
  have x1 : W0.cell? ⟨w.heap.size, 1, none⟩ = some (.int .u64 (n1 : Int)) := by simp [World.cell?, p0]
  have y0 : W0.cell? ⟨w.heap.size + 1, 0, none⟩ = some (.int .u64 (sa : Int)) := by simp [World.cell?, p1]
  have y1 : W0.cell? ⟨w.heap.size + 1, 1, none⟩ = some (.int .u64 (sb : Int)) := by simp [World.cell?, p1]
  have y2 : W0.cell? ⟨w.heap.size + 1, 2, none⟩ = some (.int .i64 k) := by simp [World.cell?, p1]
  have y3 : W0.cell? ⟨w.heap.size + 1, 3, none⟩ = some (.int .i64 g) := by simp [World.cell?, p1]
  have hx0 := (hx.below b0).mono b0.size
  have HW0 := Lib.hid hW0
  have B0 := Lib.hid b0
  have HX0 := Lib.hid hx0
  have CC := Lib.hid (And.intro x0 (And.intro x1 (And.intro y0 (And.intro y1 (And.intro y2 (And.intro y3 (And.intro l0 l1)))))))
  clear hW0 p0 p1 b0 x0 x1 y0 y1 y2 y3 l0 l1 hx0 hx hsz w0 w1_0 w1_1 w2_0 w2_1 w2_2 w2_3 hk hg
  by_cases hlen : (len0 : Int) ≤ 60
  · obtain ⟨m, hm⟩ : ∃ m : Nat, 1 + max k 0 % 30 = (m : Int) := ⟨(1 + max k 0 % 30).toNat, by omega⟩
    have hm1 : 1 ≤ m ∧ m ≤ 30 := by omega
    have hk1 := fun (W : World) (h : Lies evL W W.heap.size (.slice a0 len0 cap0) xs) => scSum_any xs (by omega) hxv n0 n1 hn0 W a0 cap0 (by rw [hxl]; exact h)
    have hk3 := fun (c : Nat) (hc : c ≤ 30) (W : World) (h : Lies evL W W.heap.size (.slice a0 len0 cap0) xs) => scIn_any xs (by omega) hxv n0 n1 hn0 sa sb hsa hsb (m : Int) (c : Int) (by omega) (by omega) (by omega) (by omega) W a0 cap0 (by rw [hxl]; exact h)
    have hf0 := fun x => (col_in sa sb x (m : Int) (by omega)).1
    have hf1 := fun x => (col_in sa sb x (m : Int) (by omega)).2.2 (by omega)
    have e3 := cols_cast (inB n0 n1) xs (fun x => col sa sb x (m : Int)) hf0
    have e1 := cols_sum (inB n0 n1) xs (fun x => col sa sb x (m : Int)) m hf0 hf1
    have e2 := cols_none (inB n0 n1) xs (fun x => col sa sb x (m : Int)) m hf1
    have hk3m := hk3 m hm1.2
    rw [e2] at hk3m
    simp only [e3] at hk3
    obtain ⟨F, hF⟩ : ∃ F : Nat → Nat, (fun i => sumP (fun e => inB n0 n1 e && decide ((col sa sb e.2.1 (m : Int)).toNat = i)) xs) = F := ⟨_, rfl⟩
    have hF2 : ∀ i, sumP (fun e => inB n0 n1 e && decide ((col sa sb e.2.1 (m : Int)).toNat = i)) xs = F i := fun i => by rw [← hF]
    try dsimp only at e1 hF2
    rw [hF] at e1
    simp only [hF2, hxl] at hk3
    rw [← e1] at hk1
    simp only [hxl] at hk1 hk3m
    have hz : (((0 % M64 : Nat)) : Int) = 0 := rfl
    simp only [hz] at hk3m
    have K1 := Lib.hid hk1
    have K3 := Lib.hid hk3
    have K4 := Lib.hid hk3m
    have hstep : ∀ c, IntKind.u64.wrap (((colsN F c % M64 : Nat) : Int) + ((F c % M64 : Nat) : Int)) = ((colsN F (c + 1) % M64 : Nat) : Int) := fun c => by
      rw [u64_add, ← Nat.add_mod]
      rfl
    have HST := Lib.hid hstep
    have HM := Lib.hid hm
    have hm30 := hm1.2
    clear hk1 hk3 hk3m hxl hxv hm hm1 hn0 hn1 hsa hsb hf0 hf1 e3 e1 e2 hF hF2 hz hstep
    go_enter Try.func6, Try.ntmps6
    go_upto_region 1 with (fail)
    rw [← HW0.out]
    go_upto_region 2 with (go_at_call 18; (with_reducible refine (sawake_any _).mono ?_); rintro e w1 ⟨rfl, hb⟩; have HB1 := Lib.hid (thn B0.out hb); have HX1 := Lib.hid ((HX0.out.below hb).mono hb.size); have HC1 := Lib.hid hb; clear hb)
    obtain ⟨x0, x1, y0, y1, y2, -, l0, l1⟩ := CC.out
    have QQ := Lib.hid (And.intro x0 (And.intro x1 (And.intro y0 (And.intro y1 (And.intro y2 (And.intro l0 l1))))))
    have X0 := (HC1.out.cell (p := ⟨w.heap.size, 0, none⟩) l0).trans x0
    have X1 := (HC1.out.cell (p := ⟨w.heap.size, 1, none⟩) l0).trans x1
    have Y0 := (HC1.out.cell (p := ⟨w.heap.size + 1, 0, none⟩) l1).trans y0
    have Y1 := (HC1.out.cell (p := ⟨w.heap.size + 1, 1, none⟩) l1).trans y1
    have Y2 := (HC1.out.cell (p := ⟨w.heap.size + 1, 2, none⟩) l1).trans y2
    have l1' := Nat.lt_of_lt_of_le l1 HC1.out.size
    clear x0 x1 y0 y1 y2 l0 l1 CC
    go_upto_region 5 with (fail)
    rw [HM.out]
    clear X0 X1 Y0 Y1 Y2 l1'
    go_wp2
    go_loopw [9, 10] (fun s9 s10 wr => ∃ c : Nat, s10 = .int .i64 (c : Int) ∧ c ≤ m ∧ s9 = .int .u64 ((colsN F c % M64 : Nat) : Int) ∧ Hid (Below w1.heap.size w1 wr)) (fun _ s10 _ => m - (intOf s10).toNat)
    case atStart => exact ⟨0, rfl, Nat.zero_le _, rfl, Lib.hid (Below.refl _ _)⟩
    case round =>
      obtain ⟨c, rfl, hc, rfl, HB⟩ := hrel
      have HX := Lib.hid ((HX1.out.below HB.out).mono HB.out.size)
      obtain ⟨x0, x1, y0, y1, y2, l0, l1⟩ := QQ.out
      have hall := HC1.out.trans (HB.out.mono HC1.out.size)
      have X0 := (hall.cell (p := ⟨w.heap.size, 0, none⟩) l0).trans x0
      have X1 := (hall.cell (p := ⟨w.heap.size, 1, none⟩) l0).trans x1
      have Y0 := (hall.cell (p := ⟨w.heap.size + 1, 0, none⟩) l1).trans y0
      have Y1 := (hall.cell (p := ⟨w.heap.size + 1, 1, none⟩) l1).trans y1
      have Y2 := (hall.cell (p := ⟨w.heap.size + 1, 2, none⟩) l1).trans y2
      have l0' := Nat.lt_of_lt_of_le l0 hall.size
      have l1' := Nat.lt_of_lt_of_le l1 hall.size
      clear x0 x1 y0 y1 y2 l0 l1
      have HALL := Lib.hid hall
      clear hall
      by_cases hlt : c < m
      · obtain ⟨z, hz⟩ : ∃ z, colsN F c % M64 = z := ⟨_, rfl⟩
        have hs := HST.out c
        rw [hz] at hs ⊢
        obtain ⟨y, hy⟩ : ∃ z, F c % M64 = z := ⟨_, rfl⟩
        have hk := K3.out c (by omega) wr HX.out
        rw [hy] at hs hk
        have HS := Lib.hid hs
        have HK := Lib.hid hk
        clear hs hk hz hy
        go_wp2_with (go_at_call 21; (with_reducible refine HK.out.mono ?_); rintro e w2 ⟨rfl, hb⟩; have HB2 := Lib.hid (thn HB.out hb); clear hb)
        refine ⟨⟨c + 1, by go_num, hlt, by rw [← HS.out], HB2⟩, by simp [intOf]; omega⟩
      · have e : c = m := by omega
        subst e
        obtain ⟨z, hz⟩ : ∃ z, colsN F c % M64 = z := ⟨_, rfl⟩
        have hk := K1.out
        rw [hz] at hk ⊢
        have HK := Lib.hid hk
        clear hk hz
        go_wp2_with (first
          | (go_at_call 19; (with_reducible refine (HK.out _ HX.out).mono ?_); rintro e w2 ⟨rfl, hb⟩; have HB2 := Lib.hid (thn HB.out hb); have HX2 := Lib.hid ((HX.out.below hb).mono hb.size); have X0 := (hb.cell (p := ⟨w.heap.size, 0, none⟩) l0').trans X0; have X1 := (hb.cell (p := ⟨w.heap.size, 1, none⟩) l0').trans X1; have Y0 := (hb.cell (p := ⟨w.heap.size + 1, 0, none⟩) l1').trans Y0; have Y1 := (hb.cell (p := ⟨w.heap.size + 1, 1, none⟩) l1').trans Y1; clear hb)
          | (go_at_call 21; (with_reducible refine (K4.out _ HX2.out).mono ?_); rintro e w3 ⟨rfl, hb⟩; have HB3 := Lib.hid (thn HB2.out hb); clear hb))
        go_ret
        exact ⟨rfl, thn HB1.out HB3.out⟩
  · go_enter Try.func6, Try.ntmps6
    go_upto_region 1 with (fail)
    rw [← HW0.out]
    go_upto_region 2 with (go_at_call 18; (with_reducible refine (sawake_any _).mono ?_); rintro e w1 ⟨rfl, hb⟩; have HB1 := Lib.hid (thn B0.out hb); have HX1 := Lib.hid ((HX0.out.below hb).mono hb.size); have HC1 := Lib.hid hb; clear hb)
    obtain ⟨x0, x1, y0, y1, y2, -, l0, l1⟩ := CC.out
    have X0 := (HC1.out.cell (p := ⟨w.heap.size, 0, none⟩) l0).trans x0
    have X1 := (HC1.out.cell (p := ⟨w.heap.size, 1, none⟩) l0).trans x1
    have Y0 := (HC1.out.cell (p := ⟨w.heap.size + 1, 0, none⟩) l1).trans y0
    have Y1 := (HC1.out.cell (p := ⟨w.heap.size + 1, 1, none⟩) l1).trans y1
    have Y2 := (HC1.out.cell (p := ⟨w.heap.size + 1, 2, none⟩) l1).trans y2
    go_wp2
    go_ret
    exact ⟨rfl, HB1.out⟩

set_option maxRecDepth 100000 in
theorem lifted (os : Os) (started : os.Started) (H : Type) (enc : TypeId × Value → H) :
    ReturnsInHanded {} Try.checked os 6 .any (Rows.scanColumnsSpec.pre6 enc Try.prog Try.f6 Rows.scanColumnsRow.domain false) (Rows.scanColumnsSpec.post enc Try.prog Try.f6 false true false false) := by
  refine returnsInHanded_of_change (C := Try.checked) own started (by kernel_rfl) Try.func6
    (ChangeSpec.witness6 (enc := enc) (C := Try.checked) false ⟨#[], #[.slice none 0 0, .agg #[.int .u64 0, .int .u64 0], .agg #[.int .u64 0, .int .u64 0, .int .i64 0, .int .i64 0]], []⟩ 8 (by kernel_rfl) (by kernel_rfl) (by kernel_rfl) (by kernel_rfl)) ?_
  intro W base args ds gs before hval0 hW hcnd _
  have hval : ∀ (j : Nat) t v, Try.f6.params[j]? = some t → args[j]? = some v → Value.okWide Try.prog W .any base t v := hval0
  have hW' := hW
  obtain ⟨p, q, hA0, hV, rfl, hfz, hnd⟩ := hW
  have hA : DataW.TrodAll enc Try.prog W 0 (fun _ => true) true Try.f6.params.toList args.toList ds p := hA0
  rw [Try.params6] at hA hval
  obtain ⟨v0, vs0, d0, ds0, p0, q0, hargs, rfl, rfl, h0, r0⟩ := trodAll_cons hA
  obtain ⟨v1, vs1, d1, ds1, p1, q1, rfl, rfl, rfl, h1, r1⟩ := trodAll_cons r0
  obtain ⟨v2, vs2, d2, ds2, p2, q2, rfl, rfl, rfl, h2, r2⟩ := trodAll_cons r1
  obtain ⟨rfl, rfl, rfl⟩ := trodAll_nil r2
  obtain rfl : args = #[v0, v1, v2] := by cases args; simp_all
  obtain ⟨rfl, rfl⟩ := trodVars_none hV
  obtain ⟨a0, len0, cap0, rfl⟩ := okWide_slice Try.underlying27 (hval 0 27 v0 rfl rfl)
  have k0 := h0
  have lt0 : ∀ x ∈ p0, x.block < W.heap.size := by obtain ⟨m, hm⟩ := k0; exact DataW.trod_lt m _ _ _ hm
  obtain ⟨z0, w0⟩ := Op.open_flats (f := 9) (ks := [.u64, .u64, .u64]) Try.underlying27 (by kernel_rfl) (by kernel_rfl) (by decide) h0
  have k1 := h1
  have lt1 : ∀ x ∈ p1, x.block < W.heap.size := by obtain ⟨m, hm⟩ := k1; exact DataW.trod_lt m _ _ _ hm
  obtain ⟨c1, rfl, fit1⟩ := Op.open_flat (f := 9) (ks := [.u64, .u64]) (by kernel_rfl) (by kernel_rfl) (hval 1 45 v1 rfl rfl) h1
  obtain ⟨a1_0, a1_1, rfl, w1_0, w1_1⟩ := fit1_of fit1
  have k2 := h2
  have lt2 : ∀ x ∈ p2, x.block < W.heap.size := by obtain ⟨m, hm⟩ := k2; exact DataW.trod_lt m _ _ _ hm
  obtain ⟨c2, rfl, fit2⟩ := Op.open_flat (f := 9) (ks := [.u64, .u64, .i64, .i64]) (by kernel_rfl) (by kernel_rfl) (hval 2 49 v2 rfl rfl) h2
  obtain ⟨a2_0, a2_1, a2_2, a2_3, rfl, w2_0, w2_1, w2_2, w2_3⟩ := fit2_of fit2
  clear hA0 hval0
  refine (walk a0 len0 cap0 z0 a1_0 a1_1 a2_0 a2_1 a2_2 a2_3 W w0 w1_0 w1_1 w2_0 w2_1 w2_2 w2_3).mono fun e W' ⟨he, bel⟩ => ?_
  subst he
  exact ⟨_, rfl, _, _, _, [], _, [], hW', trodAll_mk1 (shut_bool Try.underlying4 _), (trodAll_cons_mk (Below.trod laidOut (by kernel_rfl) (of_decide_eq_true (by kernel_rfl)) k0 bel lt0) (trodAll_cons_mk (Below.trod laidOut (by kernel_rfl) (of_decide_eq_true (by kernel_rfl)) k1 bel lt1) (trodAll_cons_mk (Below.trod laidOut (by kernel_rfl) (of_decide_eq_true (by kernel_rfl)) k2 bel lt2) trodAll_mk0))), rfl, bel.frame _, fun h => by cases h⟩

theorem over : Rows.scanColumnsRow.holds Try.pinned (OpenSpec.ofChange Rows.scanColumnsSpec) :=
  OpenClaim.holds_of_wide 6 Try.f6 rfl rfl rfl rfl rfl rfl rfl ⟨rfl, rfl, rfl, rfl, rfl⟩ rfl rfl rfl rfl rfl (by kernel_rfl) Try.func6 (by kernel_rfl)
    (of_decide_eq_true (by kernel_rfl)) (by unfold Func.isWrapper; first | (rw [if_pos (by decide +kernel)]; kernel_rfl) | (rw [if_neg (by decide +kernel)]; exact ⟨rfl, rfl⟩))
    (fun os started H enc _ => lifted os started H enc)

/-- The statement. -/
theorem proved : Rows.ScanColumnsSaid := over
#print axioms proved
end Go.Proofs.Ythncmjimfkbofaa.scanColumns
