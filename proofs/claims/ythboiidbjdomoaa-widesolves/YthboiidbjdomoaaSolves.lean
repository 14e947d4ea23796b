/-
  'skylight/skylightlaw03.WideSolves' returns true for every input, and the input reads afterwards as it read before. Conditions: none.
-/
import Derived.Test.YthboiidbjdomoaaRows
import Derived.WalkKit
import Derived.ProofKit
import Derived.OpenShut
import Derived.ShutString
import Derived.ChangeOld
import Derived.Below
import Derived.Test.YthboiidbjdomoaaOpen
import Derived.Test.YthboiidbjdomoaaWAwake
import Derived.Test.YthboiidbjdomoaaWPrime
namespace Go.Proofs.Ythboiidbjdomoaa.wideSolves
open Go.Proofs Go.Proofs.Wm
open Go.ChangeShapes Go.WideShapes Go.ChangeAt Go.RowKit
open Go.ChangeMaps (open_string shut_string)
set_option linter.unusedVariables false

theorem own : ownKnob Try.prog.godebug = none := by kernel_rfl
theorem laidOut : laidOutB Try.prog = true := by kernel_rfl

/-- A slice of integers that came in: nil, or a row of cells of its capacity, each fitting its kind. -/
def IsRow (k : IntKind) (w : World) (a : Option Addr) (len cap : Nat) (zs : List Int) : Prop :=
  (a = none ∧ len = 0 ∧ cap = 0 ∧ zs = []) ∨
  ∃ x, a = some x ∧ len ≤ cap ∧ cap ≤ maxLen ∧ zs.length = cap ∧ (∀ i, i < zs.length → w.cell? (x.add i) = some (.int k (zs.getD i 0))) ∧ ∀ n ∈ zs, (Lit.int k n).wf = true

theorem lt64 {x : Nat} (h : x < pr) : x < 18446744073709551616 := Nat.lt_trans h pr_lt

set_option maxRecDepth 100000 in
set_option maxHeartbeats 4000000 in
theorem walk (a0 : Int) (a1 : Int) (a2 : Int) (w : World) (w0 : (Lit.int .u64 a0).wf = true) (w1 : (Lit.int .u64 a1).wf = true) (w2 : (Lit.int .u64 a2).wf = true) :
    Calls Try.prog 7 #[.int .u64 a0, .int .u64 a1, .int .u64 a2] w fun e w' => e = .returned (.bool true) ∧ Below w.heap.size w w' := by
  obtain ⟨b0_0, b0_1⟩ := bounds_u64 w0
  obtain ⟨a, rfl⟩ : ∃ m : Nat, a0 = m := ⟨a0.toNat, by omega⟩
  obtain ⟨b1_0, b1_1⟩ := bounds_u64 w1
  obtain ⟨x, rfl⟩ : ∃ m : Nat, a1 = m := ⟨a1.toNat, by omega⟩
  obtain ⟨b2_0, b2_1⟩ := bounds_u64 w2
  obtain ⟨y, rfl⟩ : ∃ m : Nat, a2 = m := ⟨a2.toNat, by omega⟩
  have ha : a < 18446744073709551616 := by omega
  have hx : x < 18446744073709551616 := by omega
  have hy : y < 18446744073709551616 := by omega
  clear w0 b0_0 b0_1 w1 b1_0 b1_1 w2 b2_0 b2_1
  by_cases hz : a % 2305843009213693951 = 0
  · have hz' : ((a : Int) % 2305843009213693951 == 0) = true := by rw [beq_iff_eq]; omega
    clear hz
    have hB := Below.refl w.heap.size w
    go_enter Try.func7, Try.ntmps7
    go_wp2_with (go_at_call 8; (with_reducible refine (awake_any _).mono ?_); rintro e wn ⟨rfl, hn⟩; replace hB := hB.trans (hn.mono hB.size); clear hn)
    go_ret
    exact ⟨rfl, hB⟩
  · have hz' : ((a : Int) % 2305843009213693951 == 0) = false := by rw [beq_eq_false_iff_ne]; omega
    obtain ⟨x', ex⟩ : ∃ x', x % 2305843009213693951 = x' := ⟨_, rfl⟩
    obtain ⟨y', ey⟩ : ∃ y', y % 2305843009213693951 = y' := ⟨_, rfl⟩
    have hx' : x' < 2305843009213693951 := by omega
    have hy' : y' < 2305843009213693951 := by omega
    have ex' : (x : Int) % 2305843009213693951 = (x' : Int) := by omega
    have ey' : (y : Int) % 2305843009213693951 = (y' : Int) := by omega
    have m1 := mulMod_any a x' ha (by omega)
    have m2 := mulMod_any a y' ha (by omega)
    have hiff : mulM a x' = mulM a y' ↔ x' = y' := ⟨mul_back hz hx' hy', fun e => by rw [e]⟩
    obtain ⟨p, ep⟩ : ∃ p, mulM a x' = p := ⟨_, rfl⟩
    obtain ⟨q, eq⟩ : ∃ q, mulM a y' = q := ⟨_, rfl⟩
    rw [ep] at m1 hiff
    rw [eq] at m2 hiff
    have hbq : (((p : Int) == (q : Int)) == ((x' : Int) == (y' : Int))) = true := by
      rw [beq_iff_eq, Bool.eq_iff_iff, beq_iff_eq, beq_iff_eq]; omega
    have M1 := Lib.hid m1
    have M2 := Lib.hid m2
    have HQ := Lib.hid hbq
    clear m1 m2 hiff ep eq ex ey hz hbq
    have hB := Below.refl w.heap.size w
    go_enter Try.func7, Try.ntmps7
    go_wp2_with (first
      | (go_at_call 8; (with_reducible refine (awake_any _).mono ?_); rintro e wn ⟨rfl, hn⟩; replace hB := hB.trans (hn.mono hB.size); clear hn)
      | (go_at_call 13; (with_reducible refine (M1.out _).mono ?_); rintro e wn ⟨rfl, hn⟩; replace hB := hB.trans (hn.mono hB.size); clear hn; dsimp only [n64])
      | (go_at_call 13; (with_reducible refine (M2.out _).mono ?_); rintro e wn ⟨rfl, hn⟩; replace hB := hB.trans (hn.mono hB.size); clear hn; dsimp only [n64]))
    go_ret
    exact ⟨congrArg (fun b => Ending.returned (.bool b)) HQ.out, hB⟩

set_option maxRecDepth 100000 in
theorem lifted (os : Os) (started : os.Started) (H : Type) (enc : TypeId × Value → H) :
    ReturnsInHanded {} Try.checked os 7 .any (Rows.wideSolvesSpec.pre6 enc Try.prog Try.f7 Rows.wideSolvesRow.domain false) (Rows.wideSolvesSpec.post enc Try.prog Try.f7 false true false false) := by
  refine returnsInHanded_of_change (C := Try.checked) own started (by kernel_rfl) Try.func7
    (ChangeSpec.witness6 (enc := enc) (C := Try.checked) false ⟨#[], #[.int .u64 0, .int .u64 0, .int .u64 0], []⟩ 8 (by kernel_rfl) (by kernel_rfl) (by kernel_rfl) (by kernel_rfl)) ?_
  intro W base args ds gs before hval0 hW hcnd _
  have hval : ∀ (j : Nat) t v, Try.f7.params[j]? = some t → args[j]? = some v → Value.okWide Try.prog W .any base t v := hval0
  have hW' := hW
  obtain ⟨p, q, hA0, hV, rfl, hfz, hnd⟩ := hW
  have hA : DataW.TrodAll enc Try.prog W 0 (fun _ => true) true Try.f7.params.toList args.toList ds p := hA0
  rw [Try.params7] at hA hval
  obtain ⟨v0, vs0, d0, ds0, p0, q0, hargs, rfl, rfl, h0, r0⟩ := trodAll_cons hA
  obtain ⟨v1, vs1, d1, ds1, p1, q1, rfl, rfl, rfl, h1, r1⟩ := trodAll_cons r0
  obtain ⟨v2, vs2, d2, ds2, p2, q2, rfl, rfl, rfl, h2, r2⟩ := trodAll_cons r1
  obtain ⟨rfl, rfl, rfl⟩ := trodAll_nil r2
  obtain rfl : args = #[v0, v1, v2] := by cases args; simp_all
  obtain ⟨rfl, rfl⟩ := trodVars_none hV
  obtain ⟨a0, rfl, rfl, rfl, w0⟩ := open_int Try.underlying22 (hval 0 22 v0 rfl rfl) h0
  obtain ⟨a1, rfl, rfl, rfl, w1⟩ := open_int Try.underlying22 (hval 1 22 v1 rfl rfl) h1
  obtain ⟨a2, rfl, rfl, rfl, w2⟩ := open_int Try.underlying22 (hval 2 22 v2 rfl rfl) h2
  clear hA0 hval0
  refine (walk a0 a1 a2 W w0 w1 w2).mono fun e W' ⟨he, bel⟩ => ?_
  subst he
  exact ⟨_, rfl, _, _, _, [], _, [], hW', trodAll_mk1 (shut_bool Try.underlying4 _), (trodAll_cons_mk (shut_int Try.underlying22 w0) (trodAll_cons_mk (shut_int Try.underlying22 w1) (trodAll_cons_mk (shut_int Try.underlying22 w2) trodAll_mk0))), rfl, bel.frame _, fun h => by cases h⟩

theorem over : Rows.wideSolvesRow.holds Try.pinned (OpenSpec.ofChange Rows.wideSolvesSpec) :=
  OpenClaim.holds_of_wide 7 Try.f7 rfl rfl rfl rfl rfl rfl rfl ⟨rfl, rfl, rfl, rfl, rfl⟩ rfl rfl rfl rfl rfl (by kernel_rfl) Try.func7 (by kernel_rfl)
    (of_decide_eq_true (by kernel_rfl)) (by unfold Func.isWrapper; first | (rw [if_pos (by decide +kernel)]; kernel_rfl) | (rw [if_neg (by decide +kernel)]; exact ⟨rfl, rfl⟩))
    (fun os started H enc _ => lifted os started H enc)

/-- The statement. -/
theorem proved : Rows.WideSolvesSaid := over
#print axioms proved
end Go.Proofs.Ythboiidbjdomoaa.wideSolves
