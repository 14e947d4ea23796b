/-
  'skylight/skylightlaw01.VarintBytes' returns true for every input, and the input reads afterwards as it read before. Conditions: none.
-/
import Derived.Test.YtminpknmlfmihaaRows
import Derived.WalkKit
import Derived.ProofKit
import Derived.OpenShut
import Derived.ChangeOld
import Derived.Below
import Derived.ShutString
import Derived.Test.YtminpknmlfmihaaAwake
namespace Go.Proofs.Ytminpknmlfmihaa.varintBytes
open Go.Proofs.Vm Go.Proofs.Rf
open Go.ChangeShapes Go.WideShapes Go.ChangeAt Go.RowKit
open Go.ChangeMaps (open_string shut_string)
set_option linter.unusedVariables false      -- a walk need not use every 'w<i>' (that an integer argument fits its kind)

theorem own : ownKnob Try.prog.godebug = none := by kernel_rfl

/-! ### STEP 1: THE WALK: the Go text returns true. 'Below w.heap.size w w'': the world has at most new blocks (Derived/RowKit3.lean). Part the cases AHEAD of 'go_enter' where a test parts the walk; take each callee by a contract of your own. -/
set_option maxRecDepth 100000 in
set_option maxHeartbeats 2000000 in
theorem walk (a0 : Int) (w0 : (Lit.int .u64 a0).wf = true) (w : World) :
    Calls Try.prog 7 #[.int .u64 a0] w fun e w' => e = .returned (.bool true) ∧ Below w.heap.size w w' := by
  obtain ⟨b0, b1⟩ := bounds_u64 w0
  obtain ⟨x, rfl⟩ : ∃ x : Nat, a0 = x := ⟨a0.toNat, by omega⟩
  clear w0
  have hx : x < 18446744073709551616 := by omega
  have hpos := vput_len_pos x
  have hl10 := vput_len10 x hx
  have HHX := Lib.hid hx
  have HBY := Lib.hid (vput_byte x)
  have HLE := Lib.hid (vput_left x)
  have HBD := Lib.hid (vput_bounds x)
  obtain ⟨bs, hbs⟩ : ∃ bs, vput x = bs := ⟨_, rfl⟩
  rw [hbs] at hpos hl10 HBY HLE HBD
  have HBS := Lib.hid hbs
  clear hbs hx b0
  go_enter Try.func7, Try.ntmps7
  go_wp2_with (first
    | (go_at_call 8; refine (awake_any _).mono ?_; rintro e wa ⟨rfl, hba⟩; have HA := Lib.hid hba; clear hba)
    | (go_at_call 11; with_reducible refine (put_some x bs HHX.out HBS.out _).mono ?_; rintro e wb ⟨b, off, cap, rfl, hcell, hbb⟩; have HB := Lib.hid hbb; have HC := Lib.hid hcell; clear hbb hcell))
  go_loop [5, 6] (fun left i => ∃ k : Nat, k ≤ bs.length ∧ i = .int .i64 k ∧ left = .int .u64 ((x / 128 ^ k : Nat) : Int)) (fun _ i => bs.length - (intOf i).toNat)
  case atStart => exact ⟨0, by omega, rfl, by simp⟩
  case round =>
    obtain ⟨k, hk, rfl, rfl⟩ := hrel
    by_cases hlt : k < bs.length
    · have hc : wb.cell? ⟨b, off + k, none⟩ = some (.int .u8 (bs.getD k 0)) := HC.out k hlt
      have hd := HBY.out k hlt
      have hle : x / 128 ^ k ≤ x := Nat.div_le_self _ _
      have hnx : x / 128 ^ k / 128 = x / 128 ^ (k + 1) := by rw [Nat.div_div_eq_div_mul, Nat.pow_succ]
      obtain ⟨L, hL⟩ : ∃ L, x / 128 ^ k = L := ⟨_, rfl⟩
      rw [hL] at hd hle hnx
      rw [hL]
      have HN := Lib.hid hnx
      obtain ⟨d, hdd⟩ : ∃ d, bs.getD k 0 = d := ⟨_, rfl⟩
      rw [hdd] at hc hd
      clear hdd hnx
      by_cases hlast : k + 1 < bs.length
      · rw [if_pos hlast] at hd
        have e1 : d % 128 = (L : Int) % 128 := by omega
        have e2 : 128 ≤ d := by omega
        have e3 : d ≤ 255 := by omega
        have e4 : decide (d < 128) = false := by simp; omega
        have e5 : ((k : Int) == (bs.length : Int) - 1) = false := by simp; omega
        clear hd
        clear hL
        go_wp2
        go_round
        case rel => exact ⟨k + 1, by omega, by go_num, by rw [← HN.out]; go_num⟩
        case measure => simp [intOf]; omega
      · rw [if_neg hlast] at hd
        have e1 : d % 128 = (L : Int) % 128 := by omega
        have e2 : 0 ≤ d := by omega
        have e3 : d < 128 := by omega
        have e4 : decide (d < 128) = true := by simp; omega
        have e5 : ((k : Int) == (bs.length : Int) - 1) = true := by simp; omega
        clear hd hL
        go_wp2
        go_round
        case rel => exact ⟨k + 1, by omega, by go_num, by rw [← HN.out]; go_num⟩
        case measure => simp [intOf]; omega
    · obtain rfl : k = bs.length := by omega
      rw [HLE.out]
      go_wp2
      go_ret
      exact ⟨rfl, HA.out.trans (HB.out.mono HA.out.size)⟩

/-! ### THE ROW's STEP: WRITTEN OUT: LEAVE IT -/
set_option maxRecDepth 100000 in
theorem lifted (os : Os) (started : os.Started) (H : Type) (enc : TypeId × Value → H) :
    ReturnsInHanded {} Try.checked os 7 .any (Rows.varintBytesSpec.pre6 enc Try.prog Try.f7 Rows.varintBytesRow.domain false) (Rows.varintBytesSpec.post enc Try.prog Try.f7 false true false false) := by
  refine returnsInHanded_of_change (C := Try.checked) own started (by kernel_rfl) Try.func7
    (ChangeSpec.witness6 (enc := enc) (C := Try.checked) false ⟨#[], #[.int .u64 0], []⟩ 8 (by kernel_rfl) (by kernel_rfl) (by kernel_rfl) (by kernel_rfl)) ?_
  intro W base args ds gs before hval0 hW hcnd _
  have hval : ∀ (j : Nat) t v, Try.f7.params[j]? = some t → args[j]? = some v → Value.okWide Try.prog W .any base t v := hval0
  have hW' := hW
  obtain ⟨p, q, hA0, hV, rfl, hfz, hnd⟩ := hW
  have hA : DataW.TrodAll enc Try.prog W 0 (fun _ => true) true Try.f7.params.toList args.toList ds p := hA0
  rw [Try.params7] at hA hval
  obtain ⟨v0, vs0, d0, ds0, p0, q0, hargs, rfl, rfl, h0, r0⟩ := trodAll_cons hA
  obtain ⟨rfl, rfl, rfl⟩ := trodAll_nil r0
  obtain rfl : args = #[v0] := by cases args; simp_all
  obtain ⟨rfl, rfl⟩ := trodVars_none hV
  obtain ⟨a0, rfl, rfl, rfl, w0⟩ := open_int Try.underlying22 (hval 0 22 v0 rfl rfl) h0
  clear hA0 hval0
  simp only [List.append_nil] at hW'
  refine (walk a0 w0 W).mono fun e W' ⟨he, bel⟩ => ?_
  subst he
  exact ⟨_, rfl, _, _, _, [], _, [], hW', trodAll_mk1 (shut_bool Try.underlying4 _), (trodAll_cons_mk (shut_int Try.underlying22 w0) trodAll_mk0), rfl, bel.frame _, fun h => by cases h⟩

theorem over : Rows.varintBytesRow.holds Try.pinned (OpenSpec.ofChange Rows.varintBytesSpec) :=
  OpenClaim.holds_of_wide 7 Try.f7 rfl rfl rfl rfl rfl rfl rfl ⟨rfl, rfl, rfl, rfl, rfl⟩ rfl rfl rfl rfl rfl (by kernel_rfl) Try.func7 (by kernel_rfl)
    (of_decide_eq_true (by kernel_rfl)) (by unfold Func.isWrapper; first | (rw [if_pos (by decide +kernel)]; kernel_rfl) | (rw [if_neg (by decide +kernel)]; exact ⟨rfl, rfl⟩))
    (fun os started H enc _ => lifted os started H enc)

/-- ████ THE STATEMENT ████ -/
theorem proved : Rows.VarintBytesSaid :=
  over
#print axioms proved
end Go.Proofs.Ytminpknmlfmihaa.varintBytes
