/-
  'skylight/skylightlaw01.VarintLess' returns true for every input, and the input reads afterwards as it read before. Conditions: none.
-/
import Derived.Test.YtminpknmlfmihaaRows
import Derived.WalkKit
import Derived.ProofKit
import Derived.OpenShut
import Derived.ChangeOld
import Derived.Below
import Derived.ShutString
import Derived.Test.YtminpknmlfmihaaAwake
namespace Go.Proofs.Ytminpknmlfmihaa.varintLess
open Go.Proofs.Vm Go.Proofs.Rf
open Go.ChangeShapes Go.WideShapes Go.ChangeAt Go.RowKit
open Go.ChangeMaps (open_string shut_string)
set_option linter.unusedVariables false      -- a walk need not use every 'w<i>' (that an integer argument fits its kind)

theorem own : ownKnob Try.prog.godebug = none := by kernel_rfl

theorem len_facts (x y : Nat) (hx : x < 18446744073709551616) : (y < x ∨ (vput x).length ≤ (vput y).length) ∧ ((vput x).length = 1 ↔ x < 128) ∧ ((vput x).length ≤ 2 ↔ x < 16384) ∧ ((vput x).length = 10 ↔ 9223372036854775808 ≤ x) := by
  have h1 := vput_len_iff 0 x
  have h2 := vput_len_iff 1 x
  have h9 := vput_len_iff 8 x
  have h10 := vput_len10 x (by omega)
  have hp := vput_len_pos x
  have e1 : (128 : Nat) ^ (0 + 1) = 128 := rfl
  have e2 : (128 : Nat) ^ (1 + 1) = 16384 := rfl
  have e9 : (128 : Nat) ^ (8 + 1) = 9223372036854775808 := by decide
  rw [e1] at h1; rw [e2] at h2; rw [e9] at h9
  refine ⟨?_, by omega, by omega, by omega⟩
  by_cases h : y < x
  · exact .inl h
  · exact .inr (vput_len_mono x y (by omega))

/-! ### STEP 1: THE WALK: the Go text returns true. 'Below w.heap.size w w'': the world has at most new blocks (Derived/RowKit3.lean). Part the cases AHEAD of 'go_enter' where a test parts the walk; take each callee by a contract of your own. -/
set_option maxRecDepth 100000 in
set_option maxHeartbeats 2000000 in
theorem walk (a0 : Int) (a1 : Int) (w0 : (Lit.int .u64 a0).wf = true) (w1 : (Lit.int .u64 a1).wf = true) (w : World) :
    Calls Try.prog 6 #[.int .u64 a0, .int .u64 a1] w fun e w' => e = .returned (.bool true) ∧ Below w.heap.size w w' := by
  obtain ⟨b0, b1⟩ := bounds_u64 w0
  obtain ⟨c0, c1⟩ := bounds_u64 w1
  obtain ⟨x, rfl⟩ : ∃ x : Nat, a0 = x := ⟨a0.toNat, by omega⟩
  obtain ⟨y, rfl⟩ : ∃ y : Nat, a1 = y := ⟨a1.toNat, by omega⟩
  clear w0 w1
  have hx : x < 18446744073709551616 := by omega
  have hy : y < 18446744073709551616 := by omega
  obtain ⟨f1, f2, f3, f4⟩ := len_facts x y hx
  clear b0 b1 c0 c1
  obtain ⟨lx, hlx⟩ : ∃ k, (vput x).length = k := ⟨_, rfl⟩
  obtain ⟨ly, hly⟩ : ∃ k, (vput y).length = k := ⟨_, rfl⟩
  rw [hlx, hly] at f1
  rw [hlx] at f2 f3 f4
  have g2 : ((lx : Int) == 1) = decide ((x : Int) < 128) := by rw [Bool.eq_iff_iff]; simp; omega
  have g3 : (lx : Int) ≤ 2 ↔ (x : Int) < 16384 := by omega
  have g4 : ((lx : Int) == 10) = decide (9223372036854775808 ≤ (x : Int)) := by rw [Bool.eq_iff_iff]; simp; omega
  have HX := Lib.hid hlx
  have HY := Lib.hid hly
  have HHX := Lib.hid hx
  have HHY := Lib.hid hy
  clear hlx hly f2 f3 f4 hx hy
  by_cases hxy : y < x
  case' pos => clear f1
  case' neg => have f1' : lx ≤ ly := by omega
  case' neg => clear f1
  all_goals
    go_enter Try.func6, Try.ntmps6
    go_wp2_with (first
      | (go_at_call 8; refine (awake_any _).mono ?_; rintro e wa ⟨rfl, hba⟩; have HA := Lib.hid hba; clear hba)
      | (go_at_call 11; with_reducible refine (put_len x lx HHX.out HX.out _).mono ?_; clear HHX; rintro e wb ⟨A, cap, rfl, hbb⟩; have HB := Lib.hid hbb; clear hbb)
      | (go_at_call 11; with_reducible refine (put_len y ly HHY.out HY.out _).mono ?_; clear HHY; rintro e wc ⟨A', cap', rfl, hbc⟩; have HC := Lib.hid hbc; clear hbc))
    go_ret
    exact ⟨rfl, HA.out.trans ((HB.out.trans (HC.out.mono HB.out.size)).mono HA.out.size)⟩

/-! ### THE ROW's STEP: WRITTEN OUT: LEAVE IT -/
set_option maxRecDepth 100000 in
theorem lifted (os : Os) (started : os.Started) (H : Type) (enc : TypeId × Value → H) :
    ReturnsInHanded {} Try.checked os 6 .any (Rows.varintLessSpec.pre6 enc Try.prog Try.f6 Rows.varintLessRow.domain false) (Rows.varintLessSpec.post enc Try.prog Try.f6 false true false false) := by
  refine returnsInHanded_of_change (C := Try.checked) own started (by kernel_rfl) Try.func6
    (ChangeSpec.witness6 (enc := enc) (C := Try.checked) false ⟨#[], #[.int .u64 0, .int .u64 0], []⟩ 8 (by kernel_rfl) (by kernel_rfl) (by kernel_rfl) (by kernel_rfl)) ?_
  intro W base args ds gs before hval0 hW hcnd _
  have hval : ∀ (j : Nat) t v, Try.f6.params[j]? = some t → args[j]? = some v → Value.okWide Try.prog W .any base t v := hval0
  have hW' := hW
  obtain ⟨p, q, hA0, hV, rfl, hfz, hnd⟩ := hW
  have hA : DataW.TrodAll enc Try.prog W 0 (fun _ => true) true Try.f6.params.toList args.toList ds p := hA0
  rw [Try.params6] at hA hval
  obtain ⟨v0, vs0, d0, ds0, p0, q0, hargs, rfl, rfl, h0, r0⟩ := trodAll_cons hA
  obtain ⟨v1, vs1, d1, ds1, p1, q1, rfl, rfl, rfl, h1, r1⟩ := trodAll_cons r0
  obtain ⟨rfl, rfl, rfl⟩ := trodAll_nil r1
  obtain rfl : args = #[v0, v1] := by cases args; simp_all
  obtain ⟨rfl, rfl⟩ := trodVars_none hV
  obtain ⟨a0, rfl, rfl, rfl, w0⟩ := open_int Try.underlying22 (hval 0 22 v0 rfl rfl) h0
  obtain ⟨a1, rfl, rfl, rfl, w1⟩ := open_int Try.underlying22 (hval 1 22 v1 rfl rfl) h1
  clear hA0 hval0
  simp only [List.append_nil] at hW'
  refine (walk a0 a1 w0 w1 W).mono fun e W' ⟨he, bel⟩ => ?_
  subst he
  exact ⟨_, rfl, _, _, _, [], _, [], hW', trodAll_mk1 (shut_bool Try.underlying4 _), (trodAll_cons_mk (shut_int Try.underlying22 w0) (trodAll_cons_mk (shut_int Try.underlying22 w1) trodAll_mk0)), rfl, bel.frame _, fun h => by cases h⟩

theorem over : Rows.varintLessRow.holds Try.pinned (OpenSpec.ofChange Rows.varintLessSpec) :=
  OpenClaim.holds_of_wide 6 Try.f6 rfl rfl rfl rfl rfl rfl rfl ⟨rfl, rfl, rfl, rfl, rfl⟩ rfl rfl rfl rfl rfl (by kernel_rfl) Try.func6 (by kernel_rfl)
    (of_decide_eq_true (by kernel_rfl)) (by unfold Func.isWrapper; first | (rw [if_pos (by decide +kernel)]; kernel_rfl) | (rw [if_neg (by decide +kernel)]; exact ⟨rfl, rfl⟩))
    (fun os started H enc _ => lifted os started H enc)

/-- ████ THE STATEMENT ████ -/
theorem proved : Rows.VarintLessSaid :=
  over
#print axioms proved
end Go.Proofs.Ytminpknmlfmihaa.varintLess
