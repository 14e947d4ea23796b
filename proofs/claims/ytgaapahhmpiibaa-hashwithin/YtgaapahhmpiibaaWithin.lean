/-
  'skylight/skylightlaw04.HashWithin' returns true for every input, and the input reads afterwards as it read before. Conditions: none.
-/
import Derived.Test.YtgaapahhmpiibaaRows
import Derived.WalkKit
import Derived.ProofKit
import Derived.OpenShut
import Derived.ShutString
import Derived.ChangeOld
import Derived.Below
import Derived.Test.YtgaapahhmpiibaaOpen
import Derived.Test.YtgaapahhmpiibaaHAwake
namespace Go.Proofs.Ytgaapahhmpiibaa.hashWithin
open Go.Proofs Go.Proofs.Wm Go.Proofs.Rf
open Go.ChangeShapes Go.WideShapes Go.ChangeAt Go.RowKit
open Go.ChangeMaps (open_string shut_string)
set_option linter.unusedVariables false

theorem own : ownKnob Try.prog.godebug = none := by kernel_rfl
theorem laidOut : laidOutB Try.prog = true := by kernel_rfl

/-- A slice of integers that came in: nil, or a row of cells of its capacity, each fitting its kind. -/
def IsRow (k : IntKind) (w : World) (a : Option Addr) (len cap : Nat) (zs : List Int) : Prop :=
  (a = none ∧ len = 0 ∧ cap = 0 ∧ zs = []) ∨
  ∃ x, a = some x ∧ len ≤ cap ∧ cap ≤ maxLen ∧ zs.length = cap ∧ (∀ i, i < zs.length → w.cell? (x.add i) = some (.int k (zs.getD i 0))) ∧ ∀ n ∈ zs, (Lit.int k n).wf = true

theorem fit0_of {c : List Value} (h : Op.Fits [.u64, .u64] c) : ∃ x0 x1 : Int, c = [.int .u64 x0, .int .u64 x1] ∧ (Lit.int .u64 x0).wf = true ∧ (Lit.int .u64 x1).wf = true := by
  match c, h with
  | [_, _], ⟨⟨x0, e0, e0w⟩, ⟨x1, e1, e1w⟩, _⟩ =>
    subst e0; subst e1
    exact ⟨x0, x1, rfl, e0w, e1w⟩

theorem col_within (a b x : Nat) (k : Int) (hk : 1 ≤ k) : 0 ≤ col a b x k ∧ col a b x k < k := by
  unfold col
  split
  · omega
  · split
    · omega
    · split
      · omega
      · have := Nat.mod_lt (addM (mulM a x) b) (show k.toNat > 0 by omega)
        omega
theorem col_one (a b x : Nat) : col a b x 1 = 0 := by
  have := col_within a b x 1 (by decide)
  omega

set_option maxRecDepth 100000 in
set_option maxHeartbeats 4000000 in
theorem walk (a0_0 a0_1 : Int) (a1 : Int) (a2 : Int) (w : World) (w0_0 : (Lit.int .u64 a0_0).wf = true) (w0_1 : (Lit.int .u64 a0_1).wf = true) (w1 : (Lit.int .u64 a1).wf = true) (w2 : (Lit.int .u16 a2).wf = true) :
    Calls Try.prog 5 #[.agg #[.int .u64 a0_0, .int .u64 a0_1], .int .u64 a1, .int .u16 a2] w fun e w' => e = .returned (.bool true) ∧ Below w.heap.size w w' := by
  obtain ⟨ba0_0_0, ba0_0_1⟩ := bounds_u64 w0_0
  obtain ⟨a, rfl⟩ : ∃ m : Nat, a0_0 = m := ⟨a0_0.toNat, by omega⟩
  obtain ⟨ba0_1_0, ba0_1_1⟩ := bounds_u64 w0_1
  obtain ⟨b, rfl⟩ : ∃ m : Nat, a0_1 = m := ⟨a0_1.toNat, by omega⟩
  obtain ⟨ba1_0, ba1_1⟩ := bounds_u64 w1
  obtain ⟨x, rfl⟩ : ∃ m : Nat, a1 = m := ⟨a1.toNat, by omega⟩
  have ha : a < 18446744073709551616 := by omega
  have hb : b < 18446744073709551616 := by omega
  have hx : x < 18446744073709551616 := by omega
  clear w0_0 ba0_0_0 ba0_0_1 w0_1 ba0_1_0 ba0_1_1 w1 ba1_0 ba1_1
  obtain ⟨k0, k1⟩ := bounds_u16 w2
  clear w2
  have m1 := column_any a b x ha hb hx (1 + a2) (by omega) (by omega)
  have m2 := column_any a b x ha hb hx 1 (by decide) (by decide)
  rw [col_one] at m2
  obtain ⟨l0, l1⟩ := col_within a b x (1 + a2) (by omega)
  generalize col a b x (1 + a2) = c at *
  have M1 := Lib.hid m1
  have M2 := Lib.hid m2
  clear m1 m2 ha hb hx
  have hB := below_row w (.cells #[.int .u64 a, .int .u64 b] 24)
  go_enter Try.func5, Try.ntmps5
  go_wp2_with (first
    | (go_at_call 8; refine (awake_any _).mono ?_; rintro e wn ⟨rfl, hn⟩; obtain ⟨s0, s1⟩ := box_cells hn; have hs := box_lt hn; replace hB := hB.trans (hn.mono hB.size); clear hn)
    | (go_at_call 9; (with_reducible refine (M1.out _).mono ?_); rintro e w2 ⟨rfl, hn⟩; replace s0 := (hn.cell (p := ⟨w.heap.size, 0, none⟩) hs).trans s0; replace s1 := (hn.cell (p := ⟨w.heap.size, 1, none⟩) hs).trans s1; replace hs := Nat.lt_of_lt_of_le hs hn.size; replace hB := hB.trans (hn.mono hB.size); clear hn)
    | (go_at_call 9; (with_reducible refine (M2.out _).mono ?_); rintro e w3 ⟨rfl, hn⟩; replace s0 := (hn.cell (p := ⟨w.heap.size, 0, none⟩) hs).trans s0; replace s1 := (hn.cell (p := ⟨w.heap.size, 1, none⟩) hs).trans s1; replace hs := Nat.lt_of_lt_of_le hs hn.size; replace hB := hB.trans (hn.mono hB.size); clear hn))
  go_ret
  exact ⟨rfl, hB⟩

set_option maxRecDepth 100000 in
theorem lifted (os : Os) (started : os.Started) (H : Type) (enc : TypeId × Value → H) :
    ReturnsInHanded {} Try.checked os 5 .any (Rows.hashWithinSpec.pre6 enc Try.prog Try.f5 Rows.hashWithinRow.domain false) (Rows.hashWithinSpec.post enc Try.prog Try.f5 false true false false) := by
  refine returnsInHanded_of_change (C := Try.checked) own started (by kernel_rfl) Try.func5
    (ChangeSpec.witness6 (enc := enc) (C := Try.checked) false ⟨#[], #[.agg #[.int .u64 0, .int .u64 0], .int .u64 0, .int .u16 0], []⟩ 8 (by kernel_rfl) (by kernel_rfl) (by kernel_rfl) (by kernel_rfl)) ?_
  intro W base args ds gs before hval0 hW hcnd _
  have hval : ∀ (j : Nat) t v, Try.f5.params[j]? = some t → args[j]? = some v → Value.okWide Try.prog W .any base t v := hval0
  have hW' := hW
  obtain ⟨p, q, hA0, hV, rfl, hfz, hnd⟩ := hW
  have hA : DataW.TrodAll enc Try.prog W 0 (fun _ => true) true Try.f5.params.toList args.toList ds p := hA0
  rw [Try.params5] at hA hval
  obtain ⟨v0, vs0, d0, ds0, p0, q0, hargs, rfl, rfl, h0, r0⟩ := trodAll_cons hA
  obtain ⟨v1, vs1, d1, ds1, p1, q1, rfl, rfl, rfl, h1, r1⟩ := trodAll_cons r0
  obtain ⟨v2, vs2, d2, ds2, p2, q2, rfl, rfl, rfl, h2, r2⟩ := trodAll_cons r1
  obtain ⟨rfl, rfl, rfl⟩ := trodAll_nil r2
  obtain rfl : args = #[v0, v1, v2] := by cases args; simp_all
  obtain ⟨rfl, rfl⟩ := trodVars_none hV
  have k0 := h0
  have lt0 : ∀ x ∈ p0, x.block < W.heap.size := by obtain ⟨m, hm⟩ := k0; exact DataW.trod_lt m _ _ _ hm
  obtain ⟨c0, rfl, fit0⟩ := Op.open_flat (f := 9) (ks := [.u64, .u64]) (by kernel_rfl) (by kernel_rfl) (hval 0 24 v0 rfl rfl) h0
  obtain ⟨a0_0, a0_1, rfl, w0_0, w0_1⟩ := fit0_of fit0
  obtain ⟨a1, rfl, rfl, rfl, w1⟩ := open_int Try.underlying22 (hval 1 22 v1 rfl rfl) h1
  obtain ⟨a2, rfl, rfl, rfl, w2⟩ := open_int Try.underlying34 (hval 2 34 v2 rfl rfl) h2
  clear hA0 hval0
  refine (walk a0_0 a0_1 a1 a2 W w0_0 w0_1 w1 w2).mono fun e W' ⟨he, bel⟩ => ?_
  subst he
  exact ⟨_, rfl, _, _, _, [], _, [], hW', trodAll_mk1 (shut_bool Try.underlying4 _), (trodAll_cons_mk (Below.trod laidOut (by kernel_rfl) (of_decide_eq_true (by kernel_rfl)) k0 bel lt0) (trodAll_cons_mk (shut_int Try.underlying22 w1) (trodAll_cons_mk (shut_int Try.underlying34 w2) trodAll_mk0))), rfl, bel.frame _, fun h => by cases h⟩

theorem over : Rows.hashWithinRow.holds Try.pinned (OpenSpec.ofChange Rows.hashWithinSpec) :=
  OpenClaim.holds_of_wide 5 Try.f5 rfl rfl rfl rfl rfl rfl rfl ⟨rfl, rfl, rfl, rfl, rfl⟩ rfl rfl rfl rfl rfl (by kernel_rfl) Try.func5 (by kernel_rfl)
    (of_decide_eq_true (by kernel_rfl)) (by unfold Func.isWrapper; first | (rw [if_pos (by decide +kernel)]; kernel_rfl) | (rw [if_neg (by decide +kernel)]; exact ⟨rfl, rfl⟩))
    (fun os started H enc _ => lifted os started H enc)

/-- The statement. -/
theorem proved : Rows.HashWithinSaid := over
#print axioms proved
end Go.Proofs.Ytgaapahhmpiibaa.hashWithin
