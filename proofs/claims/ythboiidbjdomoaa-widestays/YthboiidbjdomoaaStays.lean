/-
  'skylight/skylightlaw03.WideStays' returns true for every input, and the input reads afterwards as it read before. Conditions: none.
-/
import Derived.Test.YthboiidbjdomoaaRows
import Derived.WalkKit
import Derived.ProofKit
import Derived.OpenShut
import Derived.ShutString
import Derived.ChangeOld
import Derived.Below
import Derived.Test.YthboiidbjdomoaaOpen
import Derived.Test.YthboiidbjdomoaaWAwake
namespace Go.Proofs.Ythboiidbjdomoaa.wideStays
open Go.Proofs Go.Proofs.Wm
open Go.ChangeShapes Go.WideShapes Go.ChangeAt Go.RowKit
open Go.ChangeMaps (open_string shut_string)
set_option linter.unusedVariables false

theorem own : ownKnob Try.prog.godebug = none := by kernel_rfl
theorem laidOut : laidOutB Try.prog = true := by kernel_rfl

/-- A slice of integers that came in: nil, or a row of cells of its capacity, each fitting its kind. -/
def IsRow (k : IntKind) (w : World) (a : Option Addr) (len cap : Nat) (zs : List Int) : Prop :=
  (a = none ∧ len = 0 ∧ cap = 0 ∧ zs = []) ∨
  ∃ x, a = some x ∧ len ≤ cap ∧ cap ≤ maxLen ∧ zs.length = cap ∧ (∀ i, i < zs.length → w.cell? (x.add i) = some (.int k (zs.getD i 0))) ∧ ∀ n ∈ zs, (Lit.int k n).wf = true

theorem lt64 {x : Nat} (h : x < pr) : x < 18446744073709551616 := Nat.lt_trans h pr_lt

set_option maxRecDepth 100000 in
set_option maxHeartbeats 4000000 in
theorem walk (a0 : Int) (a1 : Int) (w : World) (w0 : (Lit.int .u64 a0).wf = true) (w1 : (Lit.int .u64 a1).wf = true) :
    Calls Try.prog 6 #[.int .u64 a0, .int .u64 a1] w fun e w' => e = .returned (.bool true) ∧ Below w.heap.size w w' := by
  obtain ⟨b0_0, b0_1⟩ := bounds_u64 w0
  obtain ⟨a, rfl⟩ : ∃ m : Nat, a0 = m := ⟨a0.toNat, by omega⟩
  obtain ⟨b1_0, b1_1⟩ := bounds_u64 w1
  obtain ⟨b, rfl⟩ : ∃ m : Nat, a1 = m := ⟨a1.toNat, by omega⟩
  have ha : a < 18446744073709551616 := by omega
  have hb : b < 18446744073709551616 := by omega
  clear w0 b0_0 b0_1 w1 b1_0 b1_1
  have k1 := mod_any a b ha hb
  have hn := modW_lt a b
  obtain ⟨n, en⟩ : ∃ n, modW a b = n := ⟨_, rfl⟩
  rw [en] at k1 hn
  have hn6 := lt64 hn
  have k2 : ∀ W : World, Calls Try.prog 13 #[.int .u64 n, .int .u64 1] W fun e w' => e = n64 n ∧ Below W.heap.size W w' := fun W => by
    have h := mulMod_any n 1 hn6 (by decide) W
    rwa [show mulM n 1 = n by unfold mulM; rw [Nat.mul_one, Nat.mod_eq_of_lt hn]] at h
  have k3 : ∀ W : World, Calls Try.prog 15 #[.int .u64 n, .int .u64 0] W fun e w' => e = n64 n ∧ Below W.heap.size W w' := fun W => by
    have h := addMod_any n 0 hn6 (by decide) W
    rwa [show addM n 0 = n by unfold addM; rw [Nat.add_zero, Nat.mod_eq_of_lt hn]] at h
  have k4 : ∀ W : World, Calls Try.prog 13 #[.int .u64 a, .int .u64 0] W fun e w' => e = .returned (.int .u64 0) ∧ Below W.heap.size W w' := fun W => by
    have h := mulMod_any a 0 ha (by decide) W
    rwa [show mulM a 0 = 0 by unfold mulM; rw [Nat.mul_zero, Nat.zero_mod]] at h
  have k5 : ∀ W : World, Calls Try.prog 15 #[.int .u64 n, .int .u64 (2305843009213693951 - (n : Int))] W fun e w' => e = .returned (.int .u64 0) ∧ Below W.heap.size W w' := fun W => by
    have h := addMod_any n (2305843009213693951 - n) hn6 (by omega) W
    rw [show addM n (2305843009213693951 - n) = 0 by unfold addM pr; unfold pr at hn; rw [Nat.add_sub_cancel' (Nat.le_of_lt hn), Nat.mod_self]] at h
    rwa [show ((2305843009213693951 - n : Nat) : Int) = 2305843009213693951 - (n : Int) by unfold pr at hn; omega] at h
  have k6 : ∀ W : World, Calls Try.prog 11 #[.int .u64 0, .int .u64 n] W fun e w' => e = n64 n ∧ Below W.heap.size W w' := fun W => by
    have h := mod_any 0 n (by decide) hn6 W
    rwa [show modW 0 n = n by unfold modW; rw [Nat.zero_mul, Nat.zero_add, Nat.mod_eq_of_lt hn]] at h
  unfold pr at hn
  obtain ⟨k, hk⟩ : ∃ k : Nat, 2305843009213693951 - (n : Int) = (k : Int) := ⟨2305843009213693951 - n, by omega⟩
  rw [hk] at k5
  have hlt : (n : Int) < 2305843009213693951 := by omega
  have hle : (n : Int) ≤ 2305843009213693951 := by omega
  clear hn
  have K1 := Lib.hid k1
  have K2 := Lib.hid k2
  have K3 := Lib.hid k3
  have K4 := Lib.hid k4
  have K5 := Lib.hid k5
  have K6 := Lib.hid k6
  clear k1 k2 k3 k4 k5 k6 en hn6
  have hB := Below.refl w.heap.size w
  go_enter Try.func6, Try.ntmps6
  go_wp2_with (first
    | (go_at_call 8; (with_reducible refine (awake_any _).mono ?_); rintro e wn ⟨rfl, hw⟩; replace hB := hB.trans (hw.mono hB.size); clear hw)
    | (go_at_call 11; (with_reducible refine (K1.out _).mono ?_); rintro e wn ⟨rfl, hw⟩; replace hB := hB.trans (hw.mono hB.size); clear hw; dsimp only [n64])
    | (go_at_call 13; (with_reducible refine (K2.out _).mono ?_); rintro e wn ⟨rfl, hw⟩; replace hB := hB.trans (hw.mono hB.size); clear hw; dsimp only [n64])
    | (go_at_call 15; (with_reducible refine (K3.out _).mono ?_); rintro e wn ⟨rfl, hw⟩; replace hB := hB.trans (hw.mono hB.size); clear hw; dsimp only [n64])
    | (go_at_call 13; (with_reducible refine (K4.out _).mono ?_); rintro e wn ⟨rfl, hw⟩; replace hB := hB.trans (hw.mono hB.size); clear hw)
    | (go_at_call 15; (with_reducible refine (K5.out _).mono ?_); rintro e wn ⟨rfl, hw⟩; replace hB := hB.trans (hw.mono hB.size); clear hw)
    | (go_at_call 11; (with_reducible refine (K6.out _).mono ?_); rintro e wn ⟨rfl, hw⟩; replace hB := hB.trans (hw.mono hB.size); clear hw; dsimp only [n64]))
  go_ret
  exact ⟨rfl, hB⟩

set_option maxRecDepth 100000 in
theorem lifted (os : Os) (started : os.Started) (H : Type) (enc : TypeId × Value → H) :
    ReturnsInHanded {} Try.checked os 6 .any (Rows.wideStaysSpec.pre6 enc Try.prog Try.f6 Rows.wideStaysRow.domain false) (Rows.wideStaysSpec.post enc Try.prog Try.f6 false true false false) := by
  refine returnsInHanded_of_change (C := Try.checked) own started (by kernel_rfl) Try.func6
    (ChangeSpec.witness6 (enc := enc) (C := Try.checked) false ⟨#[], #[.int .u64 0, .int .u64 0], []⟩ 8 (by kernel_rfl) (by kernel_rfl) (by kernel_rfl) (by kernel_rfl)) ?_
  intro W base args ds gs before hval0 hW hcnd _
  have hval : ∀ (j : Nat) t v, Try.f6.params[j]? = some t → args[j]? = some v → Value.okWide Try.prog W .any base t v := hval0
  have hW' := hW
  obtain ⟨p, q, hA0, hV, rfl, hfz, hnd⟩ := hW
  have hA : DataW.TrodAll enc Try.prog W 0 (fun _ => true) true Try.f6.params.toList args.toList ds p := hA0
  rw [Try.params6] at hA hval
  obtain ⟨v0, vs0, d0, ds0, p0, q0, hargs, rfl, rfl, h0, r0⟩ := trodAll_cons hA
  obtain ⟨v1, vs1, d1, ds1, p1, q1, rfl, rfl, rfl, h1, r1⟩ := trodAll_cons r0
  obtain ⟨rfl, rfl, rfl⟩ := trodAll_nil r1
  obtain rfl : args = #[v0, v1] := by cases args; simp_all
  obtain ⟨rfl, rfl⟩ := trodVars_none hV
  obtain ⟨a0, rfl, rfl, rfl, w0⟩ := open_int Try.underlying22 (hval 0 22 v0 rfl rfl) h0
  obtain ⟨a1, rfl, rfl, rfl, w1⟩ := open_int Try.underlying22 (hval 1 22 v1 rfl rfl) h1
  clear hA0 hval0
  refine (walk a0 a1 W w0 w1).mono fun e W' ⟨he, bel⟩ => ?_
  subst he
  exact ⟨_, rfl, _, _, _, [], _, [], hW', trodAll_mk1 (shut_bool Try.underlying4 _), (trodAll_cons_mk (shut_int Try.underlying22 w0) (trodAll_cons_mk (shut_int Try.underlying22 w1) trodAll_mk0)), rfl, bel.frame _, fun h => by cases h⟩

theorem over : Rows.wideStaysRow.holds Try.pinned (OpenSpec.ofChange Rows.wideStaysSpec) :=
  OpenClaim.holds_of_wide 6 Try.f6 rfl rfl rfl rfl rfl rfl rfl ⟨rfl, rfl, rfl, rfl, rfl⟩ rfl rfl rfl rfl rfl (by kernel_rfl) Try.func6 (by kernel_rfl)
    (of_decide_eq_true (by kernel_rfl)) (by unfold Func.isWrapper; first | (rw [if_pos (by decide +kernel)]; kernel_rfl) | (rw [if_neg (by decide +kernel)]; exact ⟨rfl, rfl⟩))
    (fun os started H enc _ => lifted os started H enc)

/-- The statement. -/
theorem proved : Rows.WideStaysSaid := over
#print axioms proved
end Go.Proofs.Ythboiidbjdomoaa.wideStays
