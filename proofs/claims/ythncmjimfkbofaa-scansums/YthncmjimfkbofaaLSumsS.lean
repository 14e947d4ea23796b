/-
  'skylight/skylightlaw13.ScanSums' returns true for every input, and the input reads afterwards as it read before. Conditions: none.
-/
import Derived.Test.YthncmjimfkbofaaRows
import Derived.WalkKit
import Derived.ProofKit
import Derived.OpenShut
import Derived.ShutString
import Derived.ChangeOld
import Derived.Below
import Derived.Test.YthncmjimfkbofaaJ02
import Derived.Test.YthncmjimfkbofaaJ18
namespace Go.Proofs.Ythncmjimfkbofaa.scanSums
open Go.Proofs Go.Proofs.Lm Go.Proofs.Lh Go.Proofs.Rn Go.Proofs.Op Go.Proofs.Rw Go.Proofs.Rf Go.Proofs.Bu Go.Proofs.Sc Go.Proofs.Wm
open Go.ChangeShapes Go.WideShapes Go.ChangeAt Go.RowKit
open Go.ChangeMaps (open_string shut_string)
set_option linter.unusedVariables false

theorem own : ownKnob Try.prog.godebug = none := by kernel_rfl
theorem laidOut : laidOutB Try.prog = true := by kernel_rfl

/-- A slice of integers that came in: nil, or a row of cells of its capacity, each fitting its kind. -/
def IsRow (k : IntKind) (w : World) (a : Option Addr) (len cap : Nat) (zs : List Int) : Prop :=
  (a = none ∧ len = 0 ∧ cap = 0 ∧ zs = []) ∨
  ∃ x, a = some x ∧ len ≤ cap ∧ cap ≤ maxLen ∧ zs.length = cap ∧ (∀ i, i < zs.length → w.cell? (x.add i) = some (.int k (zs.getD i 0))) ∧ ∀ n ∈ zs, (Lit.int k n).wf = true

theorem fit1_of {c : List Value} (h : Op.Fits [.u64, .u64] c) : ∃ x0 x1 : Int, c = [.int .u64 x0, .int .u64 x1] ∧ (Lit.int .u64 x0).wf = true ∧ (Lit.int .u64 x1).wf = true := by
  cases c with
  | nil => exact h.elim
  | cons y0 c =>
  have g0 := h.1
  replace h := h.2
  cases c with
  | nil => exact h.elim
  | cons y1 c =>
  have g1 := h.1
  replace h := h.2
  cases c with
  | cons y c => exact h.elim
  | nil =>
  obtain ⟨x0, e0, e0w⟩ := g0
  obtain ⟨x1, e1, e1w⟩ := g1
  exact ⟨x0, x1, by rw [e0, e1], e0w, e1w⟩

theorem fit2_of {c : List Value} (h : Op.Fits [.u64, .u64, .i64, .i64] c) : ∃ x0 x1 x2 x3 : Int, c = [.int .u64 x0, .int .u64 x1, .int .i64 x2, .int .i64 x3] ∧ (Lit.int .u64 x0).wf = true ∧ (Lit.int .u64 x1).wf = true ∧ (Lit.int .i64 x2).wf = true ∧ (Lit.int .i64 x3).wf = true := by
  cases c with
  | nil => exact h.elim
  | cons y0 c =>
  have g0 := h.1
  replace h := h.2
  cases c with
  | nil => exact h.elim
  | cons y1 c =>
  have g1 := h.1
  replace h := h.2
  cases c with
  | nil => exact h.elim
  | cons y2 c =>
  have g2 := h.1
  replace h := h.2
  cases c with
  | nil => exact h.elim
  | cons y3 c =>
  have g3 := h.1
  replace h := h.2
  cases c with
  | cons y c => exact h.elim
  | nil =>
  obtain ⟨x0, e0, e0w⟩ := g0
  obtain ⟨x1, e1, e1w⟩ := g1
  obtain ⟨x2, e2, e2w⟩ := g2
  obtain ⟨x3, e3, e3w⟩ := g3
  exact ⟨x0, x1, x2, x3, by rw [e0, e1, e2, e3], e0w, e1w, e2w, e3w⟩

open Go.RowKit Go.Shelf Go.Proofs.Rw Go.Proofs.Lh Go.Proofs.Bu Go.Proofs.Sc Go.Proofs.Wm
set_option linter.unusedVariables false

set_option maxRecDepth 100000 in
set_option maxHeartbeats 4000000 in
theorem walk (a0 : Option Addr) (len0 cap0 : Nat) (z0 : Nat → Nat → Int) (a1_0 a1_1 : Int) (a2_0 a2_1 a2_2 a2_3 : Int) (w : World) (w0 : Op.FlatRow [.u64, .u64, .u64] w a0 len0 cap0 z0) (w1_0 : (Lit.int .u64 a1_0).wf = true) (w1_1 : (Lit.int .u64 a1_1).wf = true) (w2_0 : (Lit.int .u64 a2_0).wf = true) (w2_1 : (Lit.int .u64 a2_1).wf = true) (w2_2 : (Lit.int .i64 a2_2).wf = true) (w2_3 : (Lit.int .i64 a2_3).wf = true) :
    Calls Try.prog 4 #[.slice a0 len0 cap0, .agg #[.int .u64 a1_0, .int .u64 a1_1], .agg #[.int .u64 a2_0, .int .u64 a2_1, .int .i64 a2_2, .int .i64 a2_3]] w fun e w' => e = .returned (.bool true) ∧ Below w.heap.size w w' := by
  obtain ⟨xs, hxl, hx, hxv⟩ := ev_of_row w0
  obtain ⟨q0l, q0u⟩ := bounds_u64 w1_0
  obtain ⟨q1l, q1u⟩ := bounds_u64 w1_1
  obtain ⟨n0, rfl⟩ : ∃ l : Nat, a1_0 = l := ⟨a1_0.toNat, by omega⟩
  obtain ⟨n1, rfl⟩ : ∃ l : Nat, a1_1 = l := ⟨a1_1.toNat, by omega⟩
  have hn0 : n0 < 18446744073709551616 := by omega
  have hn1 : n1 < 18446744073709551616 := by omega
  obtain ⟨r0l, r0u⟩ := bounds_u64 w2_0
  obtain ⟨r1l, r1u⟩ := bounds_u64 w2_1
  obtain ⟨r2l, r2u⟩ := bounds_i64 w2_2
  obtain ⟨r3l, r3u⟩ := bounds_i64 w2_3
  obtain ⟨sa, rfl⟩ : ∃ l : Nat, a2_0 = l := ⟨a2_0.toNat, by omega⟩
  obtain ⟨sb, rfl⟩ : ∃ l : Nat, a2_1 = l := ⟨a2_1.toNat, by omega⟩
  have hsa : sa < 18446744073709551616 := by omega
  have hsb : sb < 18446744073709551616 := by omega
  obtain ⟨k, hk⟩ : ∃ k, a2_2 = k := ⟨_, rfl⟩
  obtain ⟨g, hg⟩ : ∃ k, a2_3 = k := ⟨_, rfl⟩
  rw [hk] at r2l r2u ⊢
  rw [hg] at r3l r3u ⊢
  obtain ⟨W0, hW0, hsz, p0, p1, b0⟩ := heap_two w (.cells #[.int .u64 (n0 : Int), .int .u64 (n1 : Int)] 45) (.cells #[.int .u64 (sa : Int), .int .u64 (sb : Int), .int .i64 k, .int .i64 g] 49)
  have l0 : w.heap.size < W0.heap.size := lt_of p0
  have l1 : w.heap.size + 1 < W0.heap.size := lt_of p1
  have x0 : W0.cell? ⟨w.heap.size, 0, none⟩ = some (.int .u64 (n0 : Int)) := by simp [World.cell?, p0]
  have x1 : W0.cell? ⟨w.heap.size, 1, none⟩ = some (.int .u64 (n1 : Int)) := by simp [World.cell?, p0]
  have y0 : W0.cell? ⟨w.heap.size + 1, 0, none⟩ = some (.int .u64 (sa : Int)) := by simp [World.cell?, p1]
  have y1 : W0.cell? ⟨w.heap.size + 1, 1, none⟩ = some (.int .u64 (sb : Int)) := by simp [World.cell?, p1]
  have y2 : W0.cell? ⟨w.heap.size + 1, 2, none⟩ = some (.int .i64 k) := by simp [World.cell?, p1]
  have y3 : W0.cell? ⟨w.heap.size + 1, 3, none⟩ = some (.int .i64 g) := by simp [World.cell?, p1]
  have hx0 := (hx.below b0).mono b0.size
  have HW0 := Lib.hid hW0
  have B0 := Lib.hid b0
  have HX0 := Lib.hid hx0
  have CC := Lib.hid (And.intro x0 (And.intro x1 (And.intro y0 (And.intro y1 (And.intro y2 (And.intro y3 (And.intro l0 l1)))))))
  clear hW0 p0 p1 b0 x0 x1 y0 y1 y2 y3 l0 l1 hx0 hx hsz w0 w1_0 w1_1 w2_0 w2_1 w2_2 w2_3 hk hg
  by_cases hlen : (len0 : Int) ≤ 60
  · have hk1 := fun (W : World) (h : Lies evL W W.heap.size (.slice a0 len0 cap0) xs) => scSum_any xs (by omega) hxv n0 n1 hn0 W a0 cap0 (by rw [hxl]; exact h)
    have hk2 := fun (W : World) (h : Lies evL W W.heap.size (.slice a0 len0 cap0) xs) => rSum_any xs (by omega) n0 n1 hn0 W a0 cap0 (by rw [hxl]; exact h)
    have hk3 := fun (W : World) (h : Lies evL W W.heap.size (.slice a0 len0 cap0) xs) => scIn_any xs (by omega) hxv n0 n1 hn0 sa sb hsa hsb k g r2l r2u r3l r3u W a0 cap0 (by rw [hxl]; exact h)
    have hk4 := fun (W : World) (h : Lies evL W W.heap.size (.slice a0 len0 cap0) xs) => rIn_any xs (by omega) hxv n0 n1 hn0 sa sb hsa hsb k g r2l r2u W a0 cap0 (by rw [hxl]; exact h)
    obtain ⟨m, hm⟩ : ∃ m, sumP (inB n0 n1) xs % M64 = m := ⟨_, rfl⟩
    obtain ⟨v, hv⟩ : ∃ m, sumP (fun e => inB n0 n1 e && decide (col sa sb e.2.1 k = g)) xs % M64 = m := ⟨_, rfl⟩
    simp only [hxl, hm, hv] at hk1 hk2 hk3 hk4
    have K1 := Lib.hid hk1
    have K2 := Lib.hid hk2
    have K3 := Lib.hid hk3
    have K4 := Lib.hid hk4
    clear hk1 hk2 hk3 hk4 hxl hxv hm hv hn0 hn1 hsa hsb
    go_enter Try.func4, Try.ntmps4
    go_upto_region 1 with (fail)
    rw [← HW0.out]
    go_upto_region 4 with (go_at_call 18; (with_reducible refine (sawake_any _).mono ?_); rintro e w1 ⟨rfl, hb⟩; have HB1 := Lib.hid (thn B0.out hb); have HX1 := Lib.hid ((HX0.out.below hb).mono hb.size); have HC1 := Lib.hid hb; clear hb)
    obtain ⟨x0, x1, y0, y1, y2, y3, l0, l1⟩ := CC.out
    have l0' := Nat.lt_of_lt_of_le l0 HC1.out.size
    have l1' := Nat.lt_of_lt_of_le l1 HC1.out.size
    have X0 := fun pq : BelowBy w1 => cell_below l0' ((HC1.out.cell (p := ⟨w.heap.size, 0, none⟩) l0).trans x0) pq
    have X1 := fun pq : BelowBy w1 => cell_below l0' ((HC1.out.cell (p := ⟨w.heap.size, 1, none⟩) l0).trans x1) pq
    have Y0 := fun pq : BelowBy w1 => cell_below l1' ((HC1.out.cell (p := ⟨w.heap.size + 1, 0, none⟩) l1).trans y0) pq
    have Y1 := fun pq : BelowBy w1 => cell_below l1' ((HC1.out.cell (p := ⟨w.heap.size + 1, 1, none⟩) l1).trans y1) pq
    have Y2 := fun pq : BelowBy w1 => cell_below l1' ((HC1.out.cell (p := ⟨w.heap.size + 1, 2, none⟩) l1).trans y2) pq
    have Y3 := fun pq : BelowBy w1 => cell_below l1' ((HC1.out.cell (p := ⟨w.heap.size + 1, 3, none⟩) l1).trans y3) pq
    clear x0 x1 y0 y1 y2 y3 l0 l1 l0' l1'
    have k1 := fun pq : BelowBy w1 => K1.out pq.w' ((HX1.out.below pq.h).mono pq.h.size)
    have k2 := fun pq : BelowBy w1 => K2.out pq.w' ((HX1.out.below pq.h).mono pq.h.size)
    have k3 := fun pq : BelowBy w1 => K3.out pq.w' ((HX1.out.below pq.h).mono pq.h.size)
    have k4 := fun pq : BelowBy w1 => K4.out pq.w' ((HX1.out.below pq.h).mono pq.h.size)
    have J1 := Lib.hid k1
    have J2 := Lib.hid k2
    have J3 := Lib.hid k3
    have J4 := Lib.hid k4
    clear k1 k2 k3 k4 K1 K2 K3 K4
    refine wp_region_below (by kernel_rfl) (by kernel_rfl) ?_
    repeat (go_big_quiet_step (first
      | (go_at_call 19; exact below_of (J1.out _))
      | (go_at_call 20; exact below_of (J2.out _))
      | (go_at_call 21; exact below_of (J3.out _))
      | (go_at_call 22; exact below_of (J4.out _))))
    refine wpQuiet_nil ?_
    intro _ hw'
    obtain ⟨pq, hw''⟩ := hw'
    subst hw''
    have HB2 := Lib.hid (thn HB1.out pq.h)
    go_wp2
    go_ret
    exact ⟨rfl, HB2.out⟩
  · go_enter Try.func4, Try.ntmps4
    go_upto_region 1 with (fail)
    rw [← HW0.out]
    go_wp2_with (go_at_call 18; (with_reducible refine (sawake_any _).mono ?_); rintro e w1 ⟨rfl, hb⟩; have HB1 := Lib.hid (thn B0.out hb); have HX1 := Lib.hid ((HX0.out.below hb).mono hb.size); have HC1 := Lib.hid hb; clear hb)
    go_ret
    exact ⟨rfl, HB1.out⟩

set_option maxRecDepth 100000 in
theorem lifted (os : Os) (started : os.Started) (H : Type) (enc : TypeId × Value → H) :
    ReturnsInHanded {} Try.checked os 4 .any (Rows.scanSumsSpec.pre6 enc Try.prog Try.f4 Rows.scanSumsRow.domain false) (Rows.scanSumsSpec.post enc Try.prog Try.f4 false true false false) := by
  refine returnsInHanded_of_change (C := Try.checked) own started (by kernel_rfl) Try.func4
    (ChangeSpec.witness6 (enc := enc) (C := Try.checked) false ⟨#[], #[.slice none 0 0, .agg #[.int .u64 0, .int .u64 0], .agg #[.int .u64 0, .int .u64 0, .int .i64 0, .int .i64 0]], []⟩ 8 (by kernel_rfl) (by kernel_rfl) (by kernel_rfl) (by kernel_rfl)) ?_
  intro W base args ds gs before hval0 hW hcnd _
  have hval : ∀ (j : Nat) t v, Try.f4.params[j]? = some t → args[j]? = some v → Value.okWide Try.prog W .any base t v := hval0
  have hW' := hW
  obtain ⟨p, q, hA0, hV, rfl, hfz, hnd⟩ := hW
  have hA : DataW.TrodAll enc Try.prog W 0 (fun _ => true) true Try.f4.params.toList args.toList ds p := hA0
  rw [Try.params4] at hA hval
  obtain ⟨v0, vs0, d0, ds0, p0, q0, hargs, rfl, rfl, h0, r0⟩ := trodAll_cons hA
  obtain ⟨v1, vs1, d1, ds1, p1, q1, rfl, rfl, rfl, h1, r1⟩ := trodAll_cons r0
  obtain ⟨v2, vs2, d2, ds2, p2, q2, rfl, rfl, rfl, h2, r2⟩ := trodAll_cons r1
  obtain ⟨rfl, rfl, rfl⟩ := trodAll_nil r2
  obtain rfl : args = #[v0, v1, v2] := by cases args; simp_all
  obtain ⟨rfl, rfl⟩ := trodVars_none hV
  obtain ⟨a0, len0, cap0, rfl⟩ := okWide_slice Try.underlying27 (hval 0 27 v0 rfl rfl)
  have k0 := h0
  have lt0 : ∀ x ∈ p0, x.block < W.heap.size := by obtain ⟨m, hm⟩ := k0; exact DataW.trod_lt m _ _ _ hm
  obtain ⟨z0, w0⟩ := Op.open_flats (f := 9) (ks := [.u64, .u64, .u64]) Try.underlying27 (by kernel_rfl) (by kernel_rfl) (by decide) h0
  have k1 := h1
  have lt1 : ∀ x ∈ p1, x.block < W.heap.size := by obtain ⟨m, hm⟩ := k1; exact DataW.trod_lt m _ _ _ hm
  obtain ⟨c1, rfl, fit1⟩ := Op.open_flat (f := 9) (ks := [.u64, .u64]) (by kernel_rfl) (by kernel_rfl) (hval 1 45 v1 rfl rfl) h1
  obtain ⟨a1_0, a1_1, rfl, w1_0, w1_1⟩ := fit1_of fit1
  have k2 := h2
  have lt2 : ∀ x ∈ p2, x.block < W.heap.size := by obtain ⟨m, hm⟩ := k2; exact DataW.trod_lt m _ _ _ hm
  obtain ⟨c2, rfl, fit2⟩ := Op.open_flat (f := 9) (ks := [.u64, .u64, .i64, .i64]) (by kernel_rfl) (by kernel_rfl) (hval 2 49 v2 rfl rfl) h2
  obtain ⟨a2_0, a2_1, a2_2, a2_3, rfl, w2_0, w2_1, w2_2, w2_3⟩ := fit2_of fit2
  clear hA0 hval0
  refine (walk a0 len0 cap0 z0 a1_0 a1_1 a2_0 a2_1 a2_2 a2_3 W w0 w1_0 w1_1 w2_0 w2_1 w2_2 w2_3).mono fun e W' ⟨he, bel⟩ => ?_
  subst he
  exact ⟨_, rfl, _, _, _, [], _, [], hW', trodAll_mk1 (shut_bool Try.underlying4 _), (trodAll_cons_mk (Below.trod laidOut (by kernel_rfl) (of_decide_eq_true (by kernel_rfl)) k0 bel lt0) (trodAll_cons_mk (Below.trod laidOut (by kernel_rfl) (of_decide_eq_true (by kernel_rfl)) k1 bel lt1) (trodAll_cons_mk (Below.trod laidOut (by kernel_rfl) (of_decide_eq_true (by kernel_rfl)) k2 bel lt2) trodAll_mk0))), rfl, bel.frame _, fun h => by cases h⟩

theorem over : Rows.scanSumsRow.holds Try.pinned (OpenSpec.ofChange Rows.scanSumsSpec) :=
  OpenClaim.holds_of_wide 4 Try.f4 rfl rfl rfl rfl rfl rfl rfl ⟨rfl, rfl, rfl, rfl, rfl⟩ rfl rfl rfl rfl rfl (by kernel_rfl) Try.func4 (by kernel_rfl)
    (of_decide_eq_true (by kernel_rfl)) (by unfold Func.isWrapper; first | (rw [if_pos (by decide +kernel)]; kernel_rfl) | (rw [if_neg (by decide +kernel)]; exact ⟨rfl, rfl⟩))
    (fun os started H enc _ => lifted os started H enc)

/-- The statement. -/
theorem proved : Rows.ScanSumsSaid := over
#print axioms proved
end Go.Proofs.Ythncmjimfkbofaa.scanSums
