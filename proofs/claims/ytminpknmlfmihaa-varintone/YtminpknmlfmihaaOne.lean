/-
  'skylight/skylightlaw01.VarintOne' returns true for every input, and the input reads afterwards as it read before. Conditions: none.
-/
import Derived.Test.YtminpknmlfmihaaRows
import Derived.WalkKit
import Derived.ProofKit
import Derived.OpenShut
import Derived.ShutString
import Derived.ChangeOld
import Derived.Below
import Derived.Test.YtminpknmlfmihaaAwake
namespace Go.Proofs.Ytminpknmlfmihaa.varintOne
open Go.Proofs.Vm Go.Proofs.Rf
open Go.ChangeShapes Go.WideShapes Go.ChangeAt Go.RowKit
open Go.ChangeMaps (open_string shut_string)
set_option linter.unusedVariables false

theorem own : ownKnob Try.prog.godebug = none := by kernel_rfl
theorem laidOut : laidOutB Try.prog = true := by kernel_rfl

/-- WHAT THE WALK IS TOLD OF A SLICE OF INTEGERS THAT CAME IN: it is nil; or it leads to a row of 'cap' cells, the numbers 'zs' (the first 'len' are its elements, the rest its spare room), each fitting its kind. -/
def IsRow (k : IntKind) (w : World) (a : Option Addr) (len cap : Nat) (zs : List Int) : Prop :=
  (a = none ∧ len = 0 ∧ cap = 0 ∧ zs = []) ∨
  ∃ x, a = some x ∧ len ≤ cap ∧ cap ≤ maxLen ∧ zs.length = cap ∧ (∀ i, i < zs.length → w.cell? (x.add i) = some (.int k (zs.getD i 0))) ∧ ∀ n ∈ zs, (Lit.int k n).wf = true

/-! ### STEP 1: THE WALK: the Go text returns true, AND WRITES NOTHING THAT WAS THERE: 'Below w.heap.size w w'' (Derived/Below.lean: '.refl', '.alloc', '.drew', '.setCell' at a new block, '.trans'). Open each 'IsRow' by 'rcases' AHEAD of 'go_enter'; part every test ahead of the walk. -/
set_option maxRecDepth 100000 in
set_option maxHeartbeats 2000000 in
theorem walk (a0 : Option Addr) (len0 cap0 : Nat) (z0 : List Int) (a1 : Int) (a2 : Int) (w : World) (w0 : IsRow .u8 w a0 len0 cap0 z0) (w1 : (Lit.int .u64 a1).wf = true) (w2 : (Lit.int .u64 a2).wf = true) :
    Calls Try.prog 5 #[.slice a0 len0 cap0, .int .u64 a1, .int .u64 a2] w fun e w' => e = .returned (.bool true) ∧ Below w.heap.size w w' := by
  obtain ⟨b0, b1⟩ := bounds_u64 w1
  obtain ⟨c0, c1⟩ := bounds_u64 w2
  obtain ⟨m, rfl⟩ : ∃ m : Nat, a1 = m := ⟨a1.toNat, by omega⟩
  obtain ⟨n, rfl⟩ : ∃ n : Nat, a2 = n := ⟨a2.toNat, by omega⟩
  have hm : m < 18446744073709551616 := by omega
  have hn : n < 18446744073709551616 := by omega
  have HHM := Lib.hid hm
  have HHN := Lib.hid hn
  obtain ⟨hh, hl, hbd⟩ := holds_of_row w0
  clear w0 w1 w2 b0 c0 hm hn
  obtain ⟨bs, hbs⟩ : ∃ bs, z0.take len0 = bs := ⟨_, rfl⟩
  rw [hbs] at hh hl hbd
  subst hl
  have hcm : bs.length ≤ cap0 ∧ cap0 ≤ maxLen := by obtain ⟨A, c, hv, g1, g2, _⟩ := hh; injection hv with _ _ e3; subst e3; exact ⟨g1, g2⟩
  unfold maxLen at hcm
  obtain ⟨hcm1, hcm2⟩ := hcm
  have HH := Lib.hid hh
  have HBD := Lib.hid hbd
  have HT := Lib.hid (vtake_cases bs hbd)
  clear hbs hh hbd
  by_cases h100 : 100 < bs.length
  · go_enter Try.func5, Try.ntmps5
    go_wp2_with (go_at_call 8; refine (awake_any _).mono ?_; rintro e wa ⟨rfl, hba⟩; have HA := Lib.hid hba; clear hba)
    go_ret
    exact ⟨rfl, HA.out⟩
  · obtain ⟨sm, hsm⟩ : ∃ b : Bool, b = ((m : Int) == (n : Int)) := ⟨_, rfl⟩
    have hse : strOf (vput m) = strOf (vput n) ↔ sm = true := by
      rw [hsm]
      simp only [beq_iff_eq]
      constructor
      · intro h; have := vput_inj HHM.out HHN.out (strOf_inj (vput_bounds m) (vput_bounds n) h); omega
      · intro h; have : m = n := by omega
        rw [this]
    have HSM := Lib.hid hsm
    have HSE := Lib.hid hse
    clear hsm hse
    obtain ⟨a, k, c, ht⟩ : ∃ a k c, vtake bs = (a, k, c) := ⟨_, _, _, rfl⟩
    have HT' := Lib.hid ht
    clear ht
    go_enter Try.func5, Try.ntmps5
    go_wp2_with (first
      | (go_at_call 8; refine (awake_any _).mono ?_; rintro e wa ⟨rfl, hba⟩; have HA := Lib.hid hba; clear hba)
      | (go_at_call 9; with_reducible refine (take_any (HH.out.below HA.out) HBD.out).mono ?_; rintro e we ⟨rfl, rfl⟩; rw [HT'.out]; dsimp only [tk]))
    refine region_facts0 (fr := ?fr) 7 [23, 24, 25, 26, 27, 28, 29] (fun i v W => match i with
        | 0 => v = .int .u64 m
        | 1 => Holds W W.heap.size v (vput m)
        | 2 => v = .string (strOf (vput m))
        | 3 => v = .int .u64 n
        | 4 => Holds W W.heap.size v (vput n)
        | 5 => v = .string (strOf (vput n))
        | _ => v = .bool sm) rfl (by kernel_rfl) (by kernel_rfl) (by kernel_rfl) (by kernel_rfl) ?hfr ?hF ?hop ?htail
    case hfr =>
      intro us
      simp only [putL]
      go_simp
      rfl
    case hF =>
      intro i v W W' hG h
      match i with
      | 1 => exact (h.below hG).mono hG.size
      | 4 => exact (h.below hG).mono hG.size
      | 0 => exact h
      | 2 => exact h
      | 3 => exact h
      | 5 => exact h
      | n + 6 => exact h
    case hop =>
      intro i hi us W hG hd
      match i, hi with
      | 0, _ => clear hd; exact hop_value rfl rfl rfl (v := .int .u64 m) (W' := W) (by go_simp) (Grows.refl _) rfl
      | 1, _ =>
        have h0 : us 0 = .int .u64 m := hd 0 (by omega) (by kernel_rfl)
        clear hd
        refine hop_call rfl rfl rfl (f := 11) (args := #[.int .u64 m]) (by go_simp) ?_
        exact (put_holds m HHM.out W).mono fun _ _ ⟨v, he, hv, hb⟩ => ⟨v, he, hb, hv⟩
      | 2, _ =>
        have h1 : Holds W W.heap.size (us 1) (vput m) := hd 1 (by omega) (by kernel_rfl)
        have hr := run_str h1 (vput_bounds m)
        clear hd
        exact hop_value rfl rfl rfl (v := .string (strOf (vput m))) (W' := W) (by go_simp) (Grows.refl _) rfl
      | 3, _ => clear hd; exact hop_value rfl rfl rfl (v := .int .u64 n) (W' := W) (by go_simp) (Grows.refl _) rfl
      | 4, _ =>
        have h3 : us 3 = .int .u64 n := hd 3 (by omega) (by kernel_rfl)
        clear hd
        refine hop_call rfl rfl rfl (f := 11) (args := #[.int .u64 n]) (by go_simp) ?_
        exact (put_holds n HHN.out W).mono fun _ _ ⟨v, he, hv, hb⟩ => ⟨v, he, hb, hv⟩
      | 5, _ =>
        have h4 : Holds W W.heap.size (us 4) (vput n) := hd 4 (by omega) (by kernel_rfl)
        have hr := run_str h4 (vput_bounds n)
        clear hd
        exact hop_value rfl rfl rfl (v := .string (strOf (vput n))) (W' := W) (by go_simp) (Grows.refl _) rfl
      | 6, _ =>
        have h2 : us 2 = .string (strOf (vput m)) := hd 2 (by omega) (by kernel_rfl)
        have h5 : us 5 = .string (strOf (vput n)) := hd 5 (by omega) (by kernel_rfl)
        clear hd
        refine hop_value rfl rfl rfl (v := .bool sm) (W' := W) ?_ (Grows.refl _) rfl
        go_simp
        rw [str_beq, Bool.eq_iff_iff, ← HSE.out]
        simp
    case htail =>
      intro us W hG hf
      have h6 : us 6 = .bool sm := hf 6 (by omega)
      clear hf
      rw [h6]
      simp only [List.drop]
      repeat (go_big_quiet_step (fail))
      refine wpQuiet_nil ?_
      rintro w' ⟨nq, rfl⟩
      have hsm' : ((m : Int) == (n : Int)) = sm := HSM.out.symm
      clear h6
      have HG := Lib.hid hG
      clear hG
      go_wp2
      rcases HT.out with ht | ht | ⟨a', k', ht, ha, hk, hput⟩
      · rw [HT'.out] at ht
        injection ht with e1 e2
        injection e2 with e2 e3
        subst e1 e2 e3
        go_quiet (fail)
        go_wp2
        go_ret
        exact ⟨rfl, HA.out.trans (Below.mono ((HG.out.drewN _).drewN _) HA.out.size)⟩
      · rw [HT'.out] at ht
        injection ht with e1 e2
        injection e2 with e2 e3
        subst e1 e2 e3
        go_quiet (fail)
        go_wp2
        go_ret
        exact ⟨rfl, HA.out.trans (Below.mono ((HG.out.drewN _).drewN _) HA.out.size)⟩
      · rw [HT'.out] at ht
        injection ht with e1 e2
        injection e2 with e2 e3
        subst e1 e2 e3
        have HP := Lib.hid hput
        have HAA := Lib.hid ha
        clear hput ha
        have hkc : (k : Int) ≤ (cap0 : Int) := by omega
        refine region_facts (b := ?fb2) (fr := ?fr2) 24 7 [54, 55, 56, 57, 58, 59, 60] (fun i v W => match i with
            | 24 => Holds W W.heap.size v (vput a)
            | 25 => v = .string (strOf (vput a))
            | 26 => v = .slice a0 bs.length cap0
            | 27 => v = .int .i64 k
            | 28 => v = .slice a0 k cap0
            | 29 => v = .string (strOf (vput a))
            | _ => v = .bool true) rfl ?hB (by kernel_rfl) (by kernel_rfl) (by kernel_rfl) (by kernel_rfl) ?hQ (by kernel_rfl) ?hpre ?hfr2 ?hF2 ?hop2 ?htail2
        case hpre =>
          simp only [List.take]
          repeat (go_big_quiet_step (fail))
          refine wpQuiet_nil ?_
          rfl
        case hB => kernel_rfl
        case hQ => intro c a d v w h; cases d <;> exact h
        case hfr2 =>
          intro us
          simp only [putL]
          go_simp
          rfl
        case hF2 =>
          intro i v W W' hG h
          match i with
          | 24 => exact (h.below hG).mono hG.size
          | 25 => exact h
          | 26 => exact h
          | 27 => exact h
          | 28 => exact h
          | 29 => exact h
          | 0 | 1 | 2 | 3 | 4 | 5 | 6 | 7 | 8 | 9 | 10 | 11 | 12 | 13 | 14 | 15 | 16 | 17 | 18 | 19 | 20 | 21 | 22 | 23 => exact h
          | n + 30 => exact h
        case hop2 =>
          intro i hsi hi us W2 hG hd
          obtain ⟨d, rfl⟩ : ∃ d, i = 24 + d := ⟨i - 24, by omega⟩
          have hd7 : d < 7 := by omega
          match d, hd7 with
          | 0, _ =>
            clear hd
            refine hop_call rfl rfl rfl (f := 11) (args := #[.int .u64 a]) (by go_simp) ?_
            exact (put_holds a HAA.out W2).mono fun _ _ ⟨v, he, hv, hb⟩ => ⟨v, he, hb, hv⟩
          | 1, _ =>
            have h1 : Holds W2 W2.heap.size (us 24) (vput a) := hd 24 (by omega) (by omega) (by kernel_rfl)
            have hr := run_str h1 (vput_bounds a)
            clear hd
            exact hop_value rfl rfl rfl (v := .string (strOf (vput a))) (W' := W2) (by go_simp) (Grows.refl _) rfl
          | 2, _ => clear hd; exact hop_value rfl rfl rfl (v := .slice a0 bs.length cap0) (W' := W2) (by go_simp) (Grows.refl _) rfl
          | 3, _ => clear hd; exact hop_value rfl rfl rfl (v := .int .i64 k) (W' := W2) (by go_simp) (Grows.refl _) rfl
          | 4, _ =>
            have h2 : us 26 = .slice a0 bs.length cap0 := hd 26 (by omega) (by omega) (by kernel_rfl)
            have h3 : us 27 = .int .i64 k := hd 27 (by omega) (by omega) (by kernel_rfl)
            clear hd
            exact hop_value rfl rfl rfl (v := .slice a0 k cap0) (W' := W2) (by go_simp) (Grows.refl _) rfl
          | 5, _ =>
            have h4 : us 28 = .slice a0 k cap0 := hd 28 (by omega) (by omega) (by kernel_rfl)
            have h5 : Holds W2 w.heap.size (.slice a0 k cap0) (bs.take k) := (HH.out.below (HA.out.trans (Below.mono ((HG.out.drewN nq).trans hG) HA.out.size))).take k hk
            have hr := run_str h5 (take_bounds HBD.out k)
            rw [← HP.out] at hr
            clear hd h5
            exact hop_value rfl rfl rfl (v := .string (strOf (vput a))) (W' := W2) (by go_simp) (Grows.refl _) rfl
          | 6, _ =>
            have h5 : us 25 = .string (strOf (vput a)) := hd 25 (by omega) (by omega) (by kernel_rfl)
            have h6 : us 29 = .string (strOf (vput a)) := hd 29 (by omega) (by omega) (by kernel_rfl)
            clear hd
            exact hop_value rfl rfl rfl (v := .bool true) (W' := W2) (by go_simp) (Grows.refl _) rfl
        case htail2 =>
          intro us W2 hG hf
          have h6 : us 30 = .bool true := hf 30 (by omega) (by omega)
          clear hf
          rw [h6]
          simp only [List.drop]
          repeat (go_big_quiet_step (fail))
          refine wpQuiet_nil ?_
          rintro w' ⟨nq2, rfl⟩
          go_wp2
          go_ret
          exact ⟨rfl, HA.out.trans (Below.mono (((HG.out.drewN nq).trans hG).drewN nq2) HA.out.size)⟩

/-! ### THE ROW's STEP: WRITTEN OUT: LEAVE IT -/
set_option maxRecDepth 100000 in
theorem lifted (os : Os) (started : os.Started) (H : Type) (enc : TypeId × Value → H) :
    ReturnsInHanded {} Try.checked os 5 .any (Rows.varintOneSpec.pre6 enc Try.prog Try.f5 Rows.varintOneRow.domain false) (Rows.varintOneSpec.post enc Try.prog Try.f5 false true false false) := by
  refine returnsInHanded_of_change (C := Try.checked) own started (by kernel_rfl) Try.func5
    (ChangeSpec.witness6 (enc := enc) (C := Try.checked) false ⟨#[], #[.slice none 0 0, .int .u64 0, .int .u64 0], []⟩ 8 (by kernel_rfl) (by kernel_rfl) (by kernel_rfl) (by kernel_rfl)) ?_
  intro W base args ds gs before hval0 hW hcnd _
  have hval : ∀ (j : Nat) t v, Try.f5.params[j]? = some t → args[j]? = some v → Value.okWide Try.prog W .any base t v := hval0
  have hW' := hW
  obtain ⟨p, q, hA0, hV, rfl, hfz, hnd⟩ := hW
  have hA : DataW.TrodAll enc Try.prog W 0 (fun _ => true) true Try.f5.params.toList args.toList ds p := hA0
  rw [Try.params5] at hA hval
  obtain ⟨v0, vs0, d0, ds0, p0, q0, hargs, rfl, rfl, h0, r0⟩ := trodAll_cons hA
  obtain ⟨v1, vs1, d1, ds1, p1, q1, rfl, rfl, rfl, h1, r1⟩ := trodAll_cons r0
  obtain ⟨v2, vs2, d2, ds2, p2, q2, rfl, rfl, rfl, h2, r2⟩ := trodAll_cons r1
  obtain ⟨rfl, rfl, rfl⟩ := trodAll_nil r2
  obtain rfl : args = #[v0, v1, v2] := by cases args; simp_all
  obtain ⟨rfl, rfl⟩ := trodVars_none hV
  obtain ⟨a0, len0, cap0, rfl⟩ := okWide_slice Try.underlying23 (hval 0 23 v0 rfl rfl)
  have k0 := h0
  have lt0 : ∀ x ∈ p0, x.block < W.heap.size := by obtain ⟨m, hm⟩ := k0; exact DataW.trod_lt m _ _ _ hm
  obtain ⟨z0, w0⟩ : ∃ zs, IsRow .u8 W a0 len0 cap0 zs := by
    obtain ⟨fuel, hf⟩ := h0
    rcases open_ints Try.underlying23 Try.underlying5 (by kernel_rfl) hf with ⟨hcs, _⟩ | ⟨x, l, c, zs, hcs, _, hl, hm, hz, _, hcell, hwz⟩
    · simp [Value.cells] at hcs
      obtain ⟨rfl, rfl, rfl⟩ := hcs
      exact ⟨[], .inl ⟨rfl, rfl, rfl, rfl⟩⟩
    · simp [Value.cells] at hcs
      obtain ⟨rfl, rfl, rfl⟩ := hcs
      exact ⟨zs, .inr ⟨_, rfl, hl, hm, by simpa using hz, hcell, hwz⟩⟩
  obtain ⟨a1, rfl, rfl, rfl, w1⟩ := open_int Try.underlying22 (hval 1 22 v1 rfl rfl) h1
  obtain ⟨a2, rfl, rfl, rfl, w2⟩ := open_int Try.underlying22 (hval 2 22 v2 rfl rfl) h2
  clear hA0 hval0
  refine (walk a0 len0 cap0 z0 a1 a2 W w0 w1 w2).mono fun e W' ⟨he, bel⟩ => ?_
  subst he
  exact ⟨_, rfl, _, _, _, [], _, [], hW', trodAll_mk1 (shut_bool Try.underlying4 _), (trodAll_cons_mk (Below.trod laidOut (by kernel_rfl) (of_decide_eq_true (by kernel_rfl)) k0 bel lt0) (trodAll_cons_mk (shut_int Try.underlying22 w1) (trodAll_cons_mk (shut_int Try.underlying22 w2) trodAll_mk0))), rfl, bel.frame _, fun h => by cases h⟩

theorem over : Rows.varintOneRow.holds Try.pinned (OpenSpec.ofChange Rows.varintOneSpec) :=
  OpenClaim.holds_of_wide 5 Try.f5 rfl rfl rfl rfl rfl rfl rfl ⟨rfl, rfl, rfl, rfl, rfl⟩ rfl rfl rfl rfl rfl (by kernel_rfl) Try.func5 (by kernel_rfl)
    (of_decide_eq_true (by kernel_rfl)) (by unfold Func.isWrapper; first | (rw [if_pos (by decide +kernel)]; kernel_rfl) | (rw [if_neg (by decide +kernel)]; exact ⟨rfl, rfl⟩))
    (fun os started H enc _ => lifted os started H enc)

/-- ████ THE STATEMENT ████ -/
theorem proved : Rows.VarintOneSaid := over
#print axioms proved
end Go.Proofs.Ytminpknmlfmihaa.varintOne
