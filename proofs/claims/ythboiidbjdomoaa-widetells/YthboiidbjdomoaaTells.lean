/-
  'skylight/skylightlaw03.WideTells' returns true for every input, and the input reads afterwards as it read before. Conditions: none.
-/
import Derived.Test.YthboiidbjdomoaaRows
import Derived.WalkKit
import Derived.ProofKit
import Derived.OpenShut
import Derived.ShutString
import Derived.ChangeOld
import Derived.Below
import Derived.Test.YthboiidbjdomoaaOpen
import Derived.Test.YthboiidbjdomoaaWAwake
namespace Go.Proofs.Ythboiidbjdomoaa.wideTells
open Go.Proofs Go.Proofs.Wm
open Go.ChangeShapes Go.WideShapes Go.ChangeAt Go.RowKit
open Go.ChangeMaps (open_string shut_string)
set_option linter.unusedVariables false

theorem own : ownKnob Try.prog.godebug = none := by kernel_rfl
theorem laidOut : laidOutB Try.prog = true := by kernel_rfl

/-- A slice of integers that came in: nil, or a row of cells of its capacity, each fitting its kind. -/
def IsRow (k : IntKind) (w : World) (a : Option Addr) (len cap : Nat) (zs : List Int) : Prop :=
  (a = none ∧ len = 0 ∧ cap = 0 ∧ zs = []) ∨
  ∃ x, a = some x ∧ len ≤ cap ∧ cap ≤ maxLen ∧ zs.length = cap ∧ (∀ i, i < zs.length → w.cell? (x.add i) = some (.int k (zs.getD i 0))) ∧ ∀ n ∈ zs, (Lit.int k n).wf = true



set_option maxRecDepth 100000 in
set_option maxHeartbeats 4000000 in
theorem walk (a0 : Int) (a1 : Int) (w : World) (w0 : (Lit.int .u64 a0).wf = true) (w1 : (Lit.int .u64 a1).wf = true) :
    Calls Try.prog 3 #[.int .u64 a0, .int .u64 a1] w fun e w' => e = .returned (.bool true) ∧ Below w.heap.size w w' := by
  obtain ⟨b0, b1⟩ := bounds_u64 w0
  obtain ⟨c0, c1⟩ := bounds_u64 w1
  obtain ⟨a, rfl⟩ : ∃ m : Nat, a0 = m := ⟨a0.toNat, by omega⟩
  obtain ⟨b, rfl⟩ : ∃ n : Nat, a1 = n := ⟨a1.toNat, by omega⟩
  have ha : a < 18446744073709551616 := by omega
  have hb : b < 18446744073709551616 := by omega
  clear w0 w1 b0 b1 c0 c1
  have M1 := Lib.hid (fun W => mul_any a b ha hb W)
  have M2 := Lib.hid (fun W => rMul_any a b ha hb W)
  have M3 := Lib.hid (fun W => mod_any a b ha hb W)
  have M4 := Lib.hid (fun W => rMod_any a b ha hb W)
  have M5 := Lib.hid (fun W => mulMod_any a b ha hb W)
  have M6 := Lib.hid (fun W => rMulMod_any a b ha hb W)
  have M7 := Lib.hid (fun W => addMod_any a b ha hb W)
  have M8 := Lib.hid (fun W => rAddMod_any a b ha hb W)
  go_enter Try.func3, Try.ntmps3
  go_wp2_with (first
    | (go_at_call 8; refine (awake_any _).mono ?_; rintro e wa ⟨rfl, hba⟩)
    | (go_at_call 9; refine (M1.out _).mono ?_; rintro e wb ⟨rfl, hbb⟩)
    | (go_at_call 10; refine (M2.out _).mono ?_; rintro e wc ⟨rfl, rfl⟩)
    | (go_at_call 11; refine (M3.out _).mono ?_; rintro e wd ⟨rfl, hbd⟩; dsimp only [n64])
    | (go_at_call 12; refine (M4.out _).mono ?_; rintro e we ⟨rfl, rfl⟩; dsimp only [n64])
    | (go_at_call 13; refine (M5.out _).mono ?_; rintro e wf ⟨rfl, hbf⟩; dsimp only [n64])
    | (go_at_call 14; refine (M6.out _).mono ?_; rintro e wg ⟨rfl, rfl⟩; dsimp only [n64])
    | (go_at_call 15; refine (M7.out _).mono ?_; rintro e wh ⟨rfl, hbh⟩; dsimp only [n64])
    | (go_at_call 16; refine (M8.out _).mono ?_; rintro e wi ⟨rfl, rfl⟩; dsimp only [n64]))
  go_ret
  refine ⟨rfl, ?_⟩
  have h1 := hbf.trans (hbh.mono hbf.size)
  have h2 := hbd.trans (h1.mono hbd.size)
  have h3 := hbb.trans (h2.mono hbb.size)
  exact hba.trans (h3.mono hba.size)

set_option maxRecDepth 100000 in
theorem lifted (os : Os) (started : os.Started) (H : Type) (enc : TypeId × Value → H) :
    ReturnsInHanded {} Try.checked os 3 .any (Rows.wideTellsSpec.pre6 enc Try.prog Try.f3 Rows.wideTellsRow.domain false) (Rows.wideTellsSpec.post enc Try.prog Try.f3 false true false false) := by
  refine returnsInHanded_of_change (C := Try.checked) own started (by kernel_rfl) Try.func3
    (ChangeSpec.witness6 (enc := enc) (C := Try.checked) false ⟨#[], #[.int .u64 0, .int .u64 0], []⟩ 8 (by kernel_rfl) (by kernel_rfl) (by kernel_rfl) (by kernel_rfl)) ?_
  intro W base args ds gs before hval0 hW hcnd _
  have hval : ∀ (j : Nat) t v, Try.f3.params[j]? = some t → args[j]? = some v → Value.okWide Try.prog W .any base t v := hval0
  have hW' := hW
  obtain ⟨p, q, hA0, hV, rfl, hfz, hnd⟩ := hW
  have hA : DataW.TrodAll enc Try.prog W 0 (fun _ => true) true Try.f3.params.toList args.toList ds p := hA0
  rw [Try.params3] at hA hval
  obtain ⟨v0, vs0, d0, ds0, p0, q0, hargs, rfl, rfl, h0, r0⟩ := trodAll_cons hA
  obtain ⟨v1, vs1, d1, ds1, p1, q1, rfl, rfl, rfl, h1, r1⟩ := trodAll_cons r0
  obtain ⟨rfl, rfl, rfl⟩ := trodAll_nil r1
  obtain rfl : args = #[v0, v1] := by cases args; simp_all
  obtain ⟨rfl, rfl⟩ := trodVars_none hV
  obtain ⟨a0, rfl, rfl, rfl, w0⟩ := open_int Try.underlying22 (hval 0 22 v0 rfl rfl) h0
  obtain ⟨a1, rfl, rfl, rfl, w1⟩ := open_int Try.underlying22 (hval 1 22 v1 rfl rfl) h1
  clear hA0 hval0
  refine (walk a0 a1 W w0 w1).mono fun e W' ⟨he, bel⟩ => ?_
  subst he
  exact ⟨_, rfl, _, _, _, [], _, [], hW', trodAll_mk1 (shut_bool Try.underlying4 _), (trodAll_cons_mk (shut_int Try.underlying22 w0) (trodAll_cons_mk (shut_int Try.underlying22 w1) trodAll_mk0)), rfl, bel.frame _, fun h => by cases h⟩

theorem over : Rows.wideTellsRow.holds Try.pinned (OpenSpec.ofChange Rows.wideTellsSpec) :=
  OpenClaim.holds_of_wide 3 Try.f3 rfl rfl rfl rfl rfl rfl rfl ⟨rfl, rfl, rfl, rfl, rfl⟩ rfl rfl rfl rfl rfl (by kernel_rfl) Try.func3 (by kernel_rfl)
    (of_decide_eq_true (by kernel_rfl)) (by unfold Func.isWrapper; first | (rw [if_pos (by decide +kernel)]; kernel_rfl) | (rw [if_neg (by decide +kernel)]; exact ⟨rfl, rfl⟩))
    (fun os started H enc _ => lifted os started H enc)

/-- The statement. -/
theorem proved : Rows.WideTellsSaid := over
#print axioms proved
end Go.Proofs.Ythboiidbjdomoaa.wideTells
