/-
  'skylight/skylightlaw03.WideTurns' returns true for every input, and the input reads afterwards as it read before. Conditions: none.
-/
import Derived.Test.YthboiidbjdomoaaRows
import Derived.WalkKit
import Derived.ProofKit
import Derived.OpenShut
import Derived.ShutString
import Derived.ChangeOld
import Derived.Below
import Derived.Test.YthboiidbjdomoaaOpen
import Derived.Test.YthboiidbjdomoaaWAwake
namespace Go.Proofs.Ythboiidbjdomoaa.wideTurns
open Go.Proofs Go.Proofs.Wm
open Go.ChangeShapes Go.WideShapes Go.ChangeAt Go.RowKit
open Go.ChangeMaps (open_string shut_string)
set_option linter.unusedVariables false

theorem own : ownKnob Try.prog.godebug = none := by kernel_rfl
theorem laidOut : laidOutB Try.prog = true := by kernel_rfl

/-- A slice of integers that came in: nil, or a row of cells of its capacity, each fitting its kind. -/
def IsRow (k : IntKind) (w : World) (a : Option Addr) (len cap : Nat) (zs : List Int) : Prop :=
  (a = none ∧ len = 0 ∧ cap = 0 ∧ zs = []) ∨
  ∃ x, a = some x ∧ len ≤ cap ∧ cap ≤ maxLen ∧ zs.length = cap ∧ (∀ i, i < zs.length → w.cell? (x.add i) = some (.int k (zs.getD i 0))) ∧ ∀ n ∈ zs, (Lit.int k n).wf = true

theorem lt64 {x : Nat} (h : x < pr) : x < 18446744073709551616 := Nat.lt_trans h pr_lt
theorem mulM_assoc (a b c : Nat) : mulM (mulM a b) c = mulM a (mulM b c) := by
  unfold mulM; rw [Nat.mod_mul_mod, Nat.mul_mod_mod, Nat.mul_assoc]
theorem addM_assoc (a b c : Nat) : addM (addM a b) c = addM a (addM b c) := by
  unfold addM; rw [Nat.mod_add_mod, Nat.add_mod_mod, Nat.add_assoc]
theorem addM_comm (a b : Nat) : addM a b = addM b a := by unfold addM; rw [Nat.add_comm]

set_option maxRecDepth 100000 in
set_option maxHeartbeats 4000000 in
theorem walk (a0 : Int) (a1 : Int) (a2 : Int) (w : World) (w0 : (Lit.int .u64 a0).wf = true) (w1 : (Lit.int .u64 a1).wf = true) (w2 : (Lit.int .u64 a2).wf = true) :
    Calls Try.prog 4 #[.int .u64 a0, .int .u64 a1, .int .u64 a2] w fun e w' => e = .returned (.bool true) ∧ Below w.heap.size w w' := by
  obtain ⟨b0_0, b0_1⟩ := bounds_u64 w0
  obtain ⟨a, rfl⟩ : ∃ m : Nat, a0 = m := ⟨a0.toNat, by omega⟩
  obtain ⟨b1_0, b1_1⟩ := bounds_u64 w1
  obtain ⟨b, rfl⟩ : ∃ m : Nat, a1 = m := ⟨a1.toNat, by omega⟩
  obtain ⟨b2_0, b2_1⟩ := bounds_u64 w2
  obtain ⟨c, rfl⟩ : ∃ m : Nat, a2 = m := ⟨a2.toNat, by omega⟩
  have ha : a < 18446744073709551616 := by omega
  have hb : b < 18446744073709551616 := by omega
  have hc : c < 18446744073709551616 := by omega
  clear w0 b0_0 b0_1 w1 b1_0 b1_1 w2 b2_0 b2_1
  have eh : mulHi b a = mulHi a b := by unfold mulHi; rw [Nat.mul_comm]
  have el : mulLo b a = mulLo a b := by unfold mulLo; rw [Nat.mul_comm]
  have e1 := mulM_assoc a b c
  have e2 := addM_assoc a b c
  have e3 := addM_comm b a
  have m1 := mulMod_any a b ha hb
  have m2 := mulMod_any (mulM a b) c (lt64 (mulM_lt _ _)) hc
  have m3 := mulMod_any b c hb hc
  have m4 := mulMod_any a (mulM b c) ha (lt64 (mulM_lt _ _))
  have s1 := addMod_any a b ha hb
  have s2 := addMod_any (addM a b) c (lt64 (addM_lt _ _)) hc
  have s3 := addMod_any b c hb hc
  have s4 := addMod_any a (addM b c) ha (lt64 (addM_lt _ _))
  have s5 := addMod_any b a hb ha
  have p1 := mul_any a b ha hb
  have p2 := mul_any b a hb ha
  rw [eh, el] at p2
  rw [e1] at m2
  rw [e2] at s2
  rw [e3] at s5
  clear eh el e1 e2 e3
  generalize mulHi a b = ph at *
  generalize mulLo a b = pl at *
  generalize mulM a (mulM b c) = mabc at *
  generalize mulM a b = mab at *
  generalize mulM b c = mbc at *
  generalize addM a (addM b c) = sabc at *
  generalize addM a b = sab at *
  generalize addM b c = sbc at *
  have M1 := Lib.hid m1
  have M2 := Lib.hid m2
  have M3 := Lib.hid m3
  have M4 := Lib.hid m4
  have S1 := Lib.hid s1
  have S2 := Lib.hid s2
  have S3 := Lib.hid s3
  have S4 := Lib.hid s4
  have S5 := Lib.hid s5
  have P1 := Lib.hid p1
  have P2 := Lib.hid p2
  clear m1 m2 m3 m4 s1 s2 s3 s4 s5 p1 p2
  have hB := Below.refl w.heap.size w
  go_enter Try.func4, Try.ntmps4
  go_wp2_with (first
    | (go_at_call 8; (with_reducible refine (awake_any _).mono ?_); rintro e wn ⟨rfl, hn⟩; replace hB := hB.trans (hn.mono hB.size); clear hn)
    | (go_at_call 9; (with_reducible refine (P1.out _).mono ?_); rintro e wn ⟨rfl, hn⟩; replace hB := hB.trans (hn.mono hB.size); clear hn)
    | (go_at_call 9; (with_reducible refine (P2.out _).mono ?_); rintro e wn ⟨rfl, hn⟩; replace hB := hB.trans (hn.mono hB.size); clear hn)
    | (go_at_call 13; (with_reducible refine (M1.out _).mono ?_); rintro e wn ⟨rfl, hn⟩; replace hB := hB.trans (hn.mono hB.size); clear hn; dsimp only [n64])
    | (go_at_call 13; (with_reducible refine (M2.out _).mono ?_); rintro e wn ⟨rfl, hn⟩; replace hB := hB.trans (hn.mono hB.size); clear hn; dsimp only [n64])
    | (go_at_call 13; (with_reducible refine (M3.out _).mono ?_); rintro e wn ⟨rfl, hn⟩; replace hB := hB.trans (hn.mono hB.size); clear hn; dsimp only [n64])
    | (go_at_call 13; (with_reducible refine (M4.out _).mono ?_); rintro e wn ⟨rfl, hn⟩; replace hB := hB.trans (hn.mono hB.size); clear hn; dsimp only [n64])
    | (go_at_call 15; (with_reducible refine (S1.out _).mono ?_); rintro e wn ⟨rfl, hn⟩; replace hB := hB.trans (hn.mono hB.size); clear hn; dsimp only [n64])
    | (go_at_call 15; (with_reducible refine (S2.out _).mono ?_); rintro e wn ⟨rfl, hn⟩; replace hB := hB.trans (hn.mono hB.size); clear hn; dsimp only [n64])
    | (go_at_call 15; (with_reducible refine (S3.out _).mono ?_); rintro e wn ⟨rfl, hn⟩; replace hB := hB.trans (hn.mono hB.size); clear hn; dsimp only [n64])
    | (go_at_call 15; (with_reducible refine (S4.out _).mono ?_); rintro e wn ⟨rfl, hn⟩; replace hB := hB.trans (hn.mono hB.size); clear hn; dsimp only [n64])
    | (go_at_call 15; (with_reducible refine (S5.out _).mono ?_); rintro e wn ⟨rfl, hn⟩; replace hB := hB.trans (hn.mono hB.size); clear hn; dsimp only [n64]))
  go_ret
  exact ⟨rfl, hB⟩

set_option maxRecDepth 100000 in
theorem lifted (os : Os) (started : os.Started) (H : Type) (enc : TypeId × Value → H) :
    ReturnsInHanded {} Try.checked os 4 .any (Rows.wideTurnsSpec.pre6 enc Try.prog Try.f4 Rows.wideTurnsRow.domain false) (Rows.wideTurnsSpec.post enc Try.prog Try.f4 false true false false) := by
  refine returnsInHanded_of_change (C := Try.checked) own started (by kernel_rfl) Try.func4
    (ChangeSpec.witness6 (enc := enc) (C := Try.checked) false ⟨#[], #[.int .u64 0, .int .u64 0, .int .u64 0], []⟩ 8 (by kernel_rfl) (by kernel_rfl) (by kernel_rfl) (by kernel_rfl)) ?_
  intro W base args ds gs before hval0 hW hcnd _
  have hval : ∀ (j : Nat) t v, Try.f4.params[j]? = some t → args[j]? = some v → Value.okWide Try.prog W .any base t v := hval0
  have hW' := hW
  obtain ⟨p, q, hA0, hV, rfl, hfz, hnd⟩ := hW
  have hA : DataW.TrodAll enc Try.prog W 0 (fun _ => true) true Try.f4.params.toList args.toList ds p := hA0
  rw [Try.params4] at hA hval
  obtain ⟨v0, vs0, d0, ds0, p0, q0, hargs, rfl, rfl, h0, r0⟩ := trodAll_cons hA
  obtain ⟨v1, vs1, d1, ds1, p1, q1, rfl, rfl, rfl, h1, r1⟩ := trodAll_cons r0
  obtain ⟨v2, vs2, d2, ds2, p2, q2, rfl, rfl, rfl, h2, r2⟩ := trodAll_cons r1
  obtain ⟨rfl, rfl, rfl⟩ := trodAll_nil r2
  obtain rfl : args = #[v0, v1, v2] := by cases args; simp_all
  obtain ⟨rfl, rfl⟩ := trodVars_none hV
  obtain ⟨a0, rfl, rfl, rfl, w0⟩ := open_int Try.underlying22 (hval 0 22 v0 rfl rfl) h0
  obtain ⟨a1, rfl, rfl, rfl, w1⟩ := open_int Try.underlying22 (hval 1 22 v1 rfl rfl) h1
  obtain ⟨a2, rfl, rfl, rfl, w2⟩ := open_int Try.underlying22 (hval 2 22 v2 rfl rfl) h2
  clear hA0 hval0
  refine (walk a0 a1 a2 W w0 w1 w2).mono fun e W' ⟨he, bel⟩ => ?_
  subst he
  exact ⟨_, rfl, _, _, _, [], _, [], hW', trodAll_mk1 (shut_bool Try.underlying4 _), (trodAll_cons_mk (shut_int Try.underlying22 w0) (trodAll_cons_mk (shut_int Try.underlying22 w1) (trodAll_cons_mk (shut_int Try.underlying22 w2) trodAll_mk0))), rfl, bel.frame _, fun h => by cases h⟩

theorem over : Rows.wideTurnsRow.holds Try.pinned (OpenSpec.ofChange Rows.wideTurnsSpec) :=
  OpenClaim.holds_of_wide 4 Try.f4 rfl rfl rfl rfl rfl rfl rfl ⟨rfl, rfl, rfl, rfl, rfl⟩ rfl rfl rfl rfl rfl (by kernel_rfl) Try.func4 (by kernel_rfl)
    (of_decide_eq_true (by kernel_rfl)) (by unfold Func.isWrapper; first | (rw [if_pos (by decide +kernel)]; kernel_rfl) | (rw [if_neg (by decide +kernel)]; exact ⟨rfl, rfl⟩))
    (fun os started H enc _ => lifted os started H enc)

/-- The statement. -/
theorem proved : Rows.WideTurnsSaid := over
#print axioms proved
end Go.Proofs.Ythboiidbjdomoaa.wideTurns
