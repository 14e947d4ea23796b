/-
  'skylight/skylightlaw13.ScanKeys' returns true for every input, and the input reads afterwards as it read before. Conditions: none.
-/
import Derived.Test.YthncmjimfkbofaaRows
import Derived.WalkKit
import Derived.ProofKit
import Derived.OpenShut
import Derived.ShutString
import Derived.ChangeOld
import Derived.Below
import Derived.Test.YthncmjimfkbofaaJ02
import Derived.Test.YthncmjimfkbofaaJ18
namespace Go.Proofs.Ythncmjimfkbofaa.scanKeys
open Go.Proofs Go.Proofs.Lm Go.Proofs.Lh Go.Proofs.Rn Go.Proofs.Op Go.Proofs.Rw Go.Proofs.Rf Go.Proofs.Bu Go.Proofs.Sc Go.Proofs.Wm
open Go.ChangeShapes Go.WideShapes Go.ChangeAt Go.RowKit
open Go.ChangeMaps (open_string shut_string)
set_option linter.unusedVariables false

theorem own : ownKnob Try.prog.godebug = none := by kernel_rfl
theorem laidOut : laidOutB Try.prog = true := by kernel_rfl

/-- A slice of integers that came in: nil, or a row of cells of its capacity, each fitting its kind. -/
def IsRow (k : IntKind) (w : World) (a : Option Addr) (len cap : Nat) (zs : List Int) : Prop :=
  (a = none ∧ len = 0 ∧ cap = 0 ∧ zs = []) ∨
  ∃ x, a = some x ∧ len ≤ cap ∧ cap ≤ maxLen ∧ zs.length = cap ∧ (∀ i, i < zs.length → w.cell? (x.add i) = some (.int k (zs.getD i 0))) ∧ ∀ n ∈ zs, (Lit.int k n).wf = true

open Go.RowKit Go.Shelf Go.Proofs.Rw Go.Proofs.Lh Go.Proofs.Bu Go.Proofs.Sc Go.Proofs.Wm
set_option linter.unusedVariables false

set_option maxRecDepth 100000 in
set_option maxHeartbeats 4000000 in
theorem walk (a0 : Option Addr) (len0 cap0 : Nat) (z0 : Nat → Nat → Int) (a1 : Int) (a2 : Int) (w : World) (w0 : Op.FlatRow [.u64, .u64, .u64] w a0 len0 cap0 z0) (w1 : (Lit.int .u64 a1).wf = true) (w2 : (Lit.int .u64 a2).wf = true) :
    Calls Try.prog 5 #[.slice a0 len0 cap0, .int .u64 a1, .int .u64 a2] w fun e w' => e = .returned (.bool true) ∧ Below w.heap.size w w' := by
  obtain ⟨xs, hxl, hx, hxv⟩ := ev_of_row w0
  obtain ⟨fl, fu⟩ := bounds_u64 w1
  obtain ⟨f, rfl⟩ : ∃ l : Nat, a1 = l := ⟨a1.toNat, by omega⟩
  obtain ⟨tl, tu⟩ := bounds_u64 w2
  obtain ⟨t, rfl⟩ : ∃ l : Nat, a2 = l := ⟨a2.toNat, by omega⟩
  clear w0 w1 w2
  have hfu : f < 18446744073709551616 := by omega
  by_cases hlen : (len0 : Int) ≤ 60
  · have hk1 := fun (W : World) (h : Lies evL W W.heap.size (.slice a0 len0 cap0) xs) => scKeys_any xs (by omega) hxv f t W a0 cap0 (by rw [hxl]; exact h)
    have hk2 := fun (W : World) (h : Lies evL W W.heap.size (.slice a0 len0 cap0) xs) => rKeys_any xs (by omega) hxv f t W a0 cap0 (by rw [hxl]; exact h)
    have hlm : (keysI (ofT f t) xs).length ≤ 1000000 := by have := keys_len (ofT f t) xs xs.length (Nat.le_refl _); rw [List.take_length] at this; omega
    obtain ⟨m, hm⟩ : ∃ m, keysI (ofT f t) xs = m := ⟨_, rfl⟩
    simp only [hxl, hm] at hk1 hk2
    rw [hm] at hlm
    obtain ⟨M, hM⟩ : ∃ M, m.length = M := ⟨_, rfl⟩
    have hit := fun W A1 A2 c1 c2 h1 h2 => rItems_any m hlm W A1 A2 c1 c2 h1 h2
    simp only [hM] at hk1 hk2 hit
    have K1 := Lib.hid hk1
    have K2 := Lib.hid hk2
    have IT := Lib.hid hit
    have HX := Lib.hid hx
    clear hk1 hk2 hit hx hxl hxv hm hM hlm
    go_enter Try.func5, Try.ntmps5
    go_wp2_with (first
      | (go_at_call 18; (with_reducible refine (sawake_any _).mono ?_); rintro e w1 ⟨rfl, hb⟩; have HB1 := Lib.hid hb; have HX1 := Lib.hid ((HX.out.below hb).mono hb.size); clear hb)
      | (go_at_call 24; (with_reducible refine (K1.out _ HX1.out).mono ?_); rintro e w2 ⟨A2, c2, rfl, hl, hb⟩; have HB2 := Lib.hid (thn HB1.out hb); have HX2 := Lib.hid ((HX1.out.below hb).mono hb.size); have HL2 := Lib.hid hl; clear hb hl)
      | (go_at_call 25; (with_reducible refine (K2.out _ HX2.out).mono ?_); rintro e w3 ⟨A3, c3, rfl, hl, hb⟩; have HB3 := Lib.hid (thn HB2.out hb); have HL3 := Lib.hid hl; have HL23 := Lib.hid ((HL2.out.below hb).mono hb.size); clear hb hl)
      | (go_at_call 23; (with_reducible refine (IT.out _ _ _ _ _ HL23.out HL3.out).mono ?_); rintro e w4 ⟨rfl, hb⟩; have HB4 := Lib.hid (thn HB3.out hb); clear hb))
    go_ret
    exact ⟨rfl, HB4.out⟩
  · go_enter Try.func5, Try.ntmps5
    go_wp2_with (go_at_call 18; (with_reducible refine (sawake_any _).mono ?_); rintro e w1 ⟨rfl, hb⟩; have HB1 := Lib.hid hb; clear hb)
    go_ret
    exact ⟨rfl, HB1.out⟩

set_option maxRecDepth 100000 in
theorem lifted (os : Os) (started : os.Started) (H : Type) (enc : TypeId × Value → H) :
    ReturnsInHanded {} Try.checked os 5 .any (Rows.scanKeysSpec.pre6 enc Try.prog Try.f5 Rows.scanKeysRow.domain false) (Rows.scanKeysSpec.post enc Try.prog Try.f5 false true false false) := by
  refine returnsInHanded_of_change (C := Try.checked) own started (by kernel_rfl) Try.func5
    (ChangeSpec.witness6 (enc := enc) (C := Try.checked) false ⟨#[], #[.slice none 0 0, .int .u64 0, .int .u64 0], []⟩ 8 (by kernel_rfl) (by kernel_rfl) (by kernel_rfl) (by kernel_rfl)) ?_
  intro W base args ds gs before hval0 hW hcnd _
  have hval : ∀ (j : Nat) t v, Try.f5.params[j]? = some t → args[j]? = some v → Value.okWide Try.prog W .any base t v := hval0
  have hW' := hW
  obtain ⟨p, q, hA0, hV, rfl, hfz, hnd⟩ := hW
  have hA : DataW.TrodAll enc Try.prog W 0 (fun _ => true) true Try.f5.params.toList args.toList ds p := hA0
  rw [Try.params5] at hA hval
  obtain ⟨v0, vs0, d0, ds0, p0, q0, hargs, rfl, rfl, h0, r0⟩ := trodAll_cons hA
  obtain ⟨v1, vs1, d1, ds1, p1, q1, rfl, rfl, rfl, h1, r1⟩ := trodAll_cons r0
  obtain ⟨v2, vs2, d2, ds2, p2, q2, rfl, rfl, rfl, h2, r2⟩ := trodAll_cons r1
  obtain ⟨rfl, rfl, rfl⟩ := trodAll_nil r2
  obtain rfl : args = #[v0, v1, v2] := by cases args; simp_all
  obtain ⟨rfl, rfl⟩ := trodVars_none hV
  obtain ⟨a0, len0, cap0, rfl⟩ := okWide_slice Try.underlying27 (hval 0 27 v0 rfl rfl)
  have k0 := h0
  have lt0 : ∀ x ∈ p0, x.block < W.heap.size := by obtain ⟨m, hm⟩ := k0; exact DataW.trod_lt m _ _ _ hm
  obtain ⟨z0, w0⟩ := Op.open_flats (f := 9) (ks := [.u64, .u64, .u64]) Try.underlying27 (by kernel_rfl) (by kernel_rfl) (by decide) h0
  obtain ⟨a1, rfl, rfl, rfl, w1⟩ := open_int Try.underlying22 (hval 1 22 v1 rfl rfl) h1
  obtain ⟨a2, rfl, rfl, rfl, w2⟩ := open_int Try.underlying22 (hval 2 22 v2 rfl rfl) h2
  clear hA0 hval0
  refine (walk a0 len0 cap0 z0 a1 a2 W w0 w1 w2).mono fun e W' ⟨he, bel⟩ => ?_
  subst he
  exact ⟨_, rfl, _, _, _, [], _, [], hW', trodAll_mk1 (shut_bool Try.underlying4 _), (trodAll_cons_mk (Below.trod laidOut (by kernel_rfl) (of_decide_eq_true (by kernel_rfl)) k0 bel lt0) (trodAll_cons_mk (shut_int Try.underlying22 w1) (trodAll_cons_mk (shut_int Try.underlying22 w2) trodAll_mk0))), rfl, bel.frame _, fun h => by cases h⟩

theorem over : Rows.scanKeysRow.holds Try.pinned (OpenSpec.ofChange Rows.scanKeysSpec) :=
  OpenClaim.holds_of_wide 5 Try.f5 rfl rfl rfl rfl rfl rfl rfl ⟨rfl, rfl, rfl, rfl, rfl⟩ rfl rfl rfl rfl rfl (by kernel_rfl) Try.func5 (by kernel_rfl)
    (of_decide_eq_true (by kernel_rfl)) (by unfold Func.isWrapper; first | (rw [if_pos (by decide +kernel)]; kernel_rfl) | (rw [if_neg (by decide +kernel)]; exact ⟨rfl, rfl⟩))
    (fun os started H enc _ => lifted os started H enc)

/-- The statement. -/
theorem proved : Rows.ScanKeysSaid := over
#print axioms proved
end Go.Proofs.Ythncmjimfkbofaa.scanKeys
