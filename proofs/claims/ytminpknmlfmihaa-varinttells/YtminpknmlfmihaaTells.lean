/-
  'skylight/skylightlaw01.VarintTells' returns true for every input, and the input reads afterwards as it read before. Conditions: none.
-/
import Derived.Test.YtminpknmlfmihaaRows
import Derived.WalkKit
import Derived.ProofKit
import Derived.OpenShut
import Derived.ShutString
import Derived.ChangeOld
import Derived.Below
import Derived.Test.YtminpknmlfmihaaRef
import Derived.Test.YtminpknmlfmihaaAwake
namespace Go.Proofs.Ytminpknmlfmihaa.varintTells
open Go.Proofs.Vm Go.Proofs.Rf
open Go.ChangeShapes Go.WideShapes Go.ChangeAt Go.RowKit
open Go.ChangeMaps (open_string shut_string)
set_option linter.unusedVariables false

theorem own : ownKnob Try.prog.godebug = none := by kernel_rfl
theorem laidOut : laidOutB Try.prog = true := by kernel_rfl

/-- WHAT THE WALK IS TOLD OF A SLICE OF INTEGERS THAT CAME IN: it is nil; or it leads to a row of 'cap' cells, the numbers 'zs' (the first 'len' are its elements, the rest its spare room), each fitting its kind. -/
def IsRow (k : IntKind) (w : World) (a : Option Addr) (len cap : Nat) (zs : List Int) : Prop :=
  (a = none ∧ len = 0 ∧ cap = 0 ∧ zs = []) ∨
  ∃ x, a = some x ∧ len ≤ cap ∧ cap ≤ maxLen ∧ zs.length = cap ∧ (∀ i, i < zs.length → w.cell? (x.add i) = some (.int k (zs.getD i 0))) ∧ ∀ n ∈ zs, (Lit.int k n).wf = true

/-! ### STEP 1: THE WALK: the Go text returns true, AND WRITES NOTHING THAT WAS THERE: 'Below w.heap.size w w'' (Derived/Below.lean: '.refl', '.alloc', '.drew', '.setCell' at a new block, '.trans'). Open each 'IsRow' by 'rcases' AHEAD of 'go_enter'; part every test ahead of the walk. -/
set_option maxRecDepth 100000 in
set_option maxHeartbeats 2000000 in
theorem walk (a0 : Int) (a1 : Option Addr) (len1 cap1 : Nat) (z1 : List Int) (w : World) (w0 : (Lit.int .u64 a0).wf = true) (w1 : IsRow .u8 w a1 len1 cap1 z1) :
    Calls Try.prog 3 #[.int .u64 a0, .slice a1 len1 cap1] w fun e w' => e = .returned (.bool true) ∧ Below w.heap.size w w' := by
  obtain ⟨b0, b1⟩ := bounds_u64 w0
  obtain ⟨n, rfl⟩ : ∃ n : Nat, a0 = n := ⟨a0.toNat, by omega⟩
  have hn : n < 18446744073709551616 := by omega
  have HHN := Lib.hid hn
  obtain ⟨hh, hl, hbd⟩ := holds_of_row w1
  clear w0 w1 b0 hn
  obtain ⟨bs, hbs⟩ : ∃ bs, z1.take len1 = bs := ⟨_, rfl⟩
  rw [hbs] at hh hl hbd
  subst hl
  have hcm : bs.length ≤ cap1 ∧ cap1 ≤ maxLen := by obtain ⟨A, c, hv, g1, g2, _⟩ := hh; injection hv with _ _ e3; subst e3; exact ⟨g1, g2⟩
  unfold maxLen at hcm
  obtain ⟨hcm1, hcm2⟩ := hcm
  have HH := Lib.hid hh
  have HBD := Lib.hid hbd
  clear hbs hh hbd
  by_cases h100 : 100 < bs.length
  · go_enter Try.func3, Try.ntmps3
    go_wp2_with (go_at_call 8; refine (awake_any _).mono ?_; rintro e wa ⟨rfl, hba⟩; have HA := Lib.hid hba; clear hba)
    go_ret
    exact ⟨rfl, HA.out⟩
  · obtain ⟨a, k, c, ht⟩ : ∃ a k c, vtake bs = (a, k, c) := ⟨_, _, _, rfl⟩
    have HT' := Lib.hid ht
    clear ht
    go_enter Try.func3, Try.ntmps3
    go_wp2_with (first
      | (go_at_call 8; refine (awake_any _).mono ?_; rintro e wa ⟨rfl, hba⟩; have HA := Lib.hid hba; clear hba)
      | (go_at_call 9; with_reducible refine (take_any (HH.out.below HA.out) HBD.out).mono ?_; rintro e we ⟨rfl, rfl⟩; rw [HT'.out]; dsimp only [tk])
      | (go_at_call 10; with_reducible refine (refTake_any (HH.out.below HA.out) HBD.out).mono ?_; rintro e we ⟨rfl, rfl⟩; rw [HT'.out]; dsimp only [tk]))
    refine region_facts (b := ?fb2) (fr := ?fr2) 3 6 [32, 33, 34, 35, 36, 37] (fun i v W => match i with
        | 3 => Holds W W.heap.size v (vput n)
        | 4 => v = .string (strOf (vput n))
        | 5 => v = .int .u64 n
        | 6 => Holds W W.heap.size v (vput n)
        | 7 => v = .string (strOf (vput n))
        | _ => v = .bool true) rfl ?hB (by kernel_rfl) (by kernel_rfl) (by kernel_rfl) (by kernel_rfl) ?hQ (by kernel_rfl) ?hpre ?hfr2 ?hF2 ?hop2 ?htail2
    case hpre =>
      simp only [List.take]
      repeat (go_big_quiet_step (fail))
      refine wpQuiet_nil ?_
      rfl
    case hB => kernel_rfl
    case hQ => intro c a d v w h; cases d <;> exact h
    case hfr2 =>
      intro us
      simp only [putL]
      go_simp
      rfl
    case hF2 =>
      intro i v W W' hG h
      match i with
      | 3 => exact (h.below hG).mono hG.size
      | 6 => exact (h.below hG).mono hG.size
      | 4 => exact h
      | 5 => exact h
      | 7 => exact h
      | 0 | 1 | 2 => exact h
      | n + 8 => exact h
    case hop2 =>
      intro i hsi hi us W2 hG hd
      obtain ⟨d, rfl⟩ : ∃ d, i = 3 + d := ⟨i - 3, by omega⟩
      have hd7 : d < 6 := by omega
      match d, hd7 with
      | 0, _ =>
        clear hd
        refine hop_call rfl rfl rfl (f := 11) (args := #[.int .u64 n]) (by go_simp) ?_
        exact (put_holds n HHN.out W2).mono fun _ _ ⟨v, he, hv, hb⟩ => ⟨v, he, hb, hv⟩
      | 1, _ =>
        have h1 : Holds W2 W2.heap.size (us 3) (vput n) := hd 3 (by omega) (by omega) (by kernel_rfl)
        have hr := run_str h1 (vput_bounds n)
        clear hd
        exact hop_value rfl rfl rfl (v := .string (strOf (vput n))) (W' := W2) (by go_simp) (Grows.refl _) rfl
      | 2, _ => clear hd; exact hop_value rfl rfl rfl (v := .int .u64 n) (W' := W2) (by go_simp) (Grows.refl _) rfl
      | 3, _ =>
        have h2 : us 5 = .int .u64 n := hd 5 (by omega) (by omega) (by kernel_rfl)
        clear hd
        refine hop_call rfl rfl rfl (f := 12) (args := #[.int .u64 n]) (by go_simp) ?_
        exact (refPut_holds n HHN.out W2).mono fun _ _ ⟨v, he, hv, hb⟩ => ⟨v, he, hb, hv⟩
      | 4, _ =>
        have h1 : Holds W2 W2.heap.size (us 6) (vput n) := hd 6 (by omega) (by omega) (by kernel_rfl)
        have hr := run_str h1 (vput_bounds n)
        clear hd
        exact hop_value rfl rfl rfl (v := .string (strOf (vput n))) (W' := W2) (by go_simp) (Grows.refl _) rfl
      | 5, _ =>
        have h5 : us 4 = .string (strOf (vput n)) := hd 4 (by omega) (by omega) (by kernel_rfl)
        have h6 : us 7 = .string (strOf (vput n)) := hd 7 (by omega) (by omega) (by kernel_rfl)
        clear hd
        exact hop_value rfl rfl rfl (v := .bool true) (W' := W2) (by go_simp) (Grows.refl _) rfl
    case htail2 =>
      intro us W2 hG hf
      have h6 : us 8 = .bool true := hf 8 (by omega) (by omega)
      clear hf
      rw [h6]
      simp only [List.drop]
      repeat (go_big_quiet_step (fail))
      refine wpQuiet_nil ?_
      rintro w' ⟨nq2, rfl⟩
      go_wp2
      go_ret
      exact ⟨rfl, HA.out.trans (Below.mono (hG.drewN nq2) HA.out.size)⟩

/-! ### THE ROW's STEP: WRITTEN OUT: LEAVE IT -/
set_option maxRecDepth 100000 in
theorem lifted (os : Os) (started : os.Started) (H : Type) (enc : TypeId × Value → H) :
    ReturnsInHanded {} Try.checked os 3 .any (Rows.varintTellsSpec.pre6 enc Try.prog Try.f3 Rows.varintTellsRow.domain false) (Rows.varintTellsSpec.post enc Try.prog Try.f3 false true false false) := by
  refine returnsInHanded_of_change (C := Try.checked) own started (by kernel_rfl) Try.func3
    (ChangeSpec.witness6 (enc := enc) (C := Try.checked) false ⟨#[], #[.int .u64 0, .slice none 0 0], []⟩ 8 (by kernel_rfl) (by kernel_rfl) (by kernel_rfl) (by kernel_rfl)) ?_
  intro W base args ds gs before hval0 hW hcnd _
  have hval : ∀ (j : Nat) t v, Try.f3.params[j]? = some t → args[j]? = some v → Value.okWide Try.prog W .any base t v := hval0
  have hW' := hW
  obtain ⟨p, q, hA0, hV, rfl, hfz, hnd⟩ := hW
  have hA : DataW.TrodAll enc Try.prog W 0 (fun _ => true) true Try.f3.params.toList args.toList ds p := hA0
  rw [Try.params3] at hA hval
  obtain ⟨v0, vs0, d0, ds0, p0, q0, hargs, rfl, rfl, h0, r0⟩ := trodAll_cons hA
  obtain ⟨v1, vs1, d1, ds1, p1, q1, rfl, rfl, rfl, h1, r1⟩ := trodAll_cons r0
  obtain ⟨rfl, rfl, rfl⟩ := trodAll_nil r1
  obtain rfl : args = #[v0, v1] := by cases args; simp_all
  obtain ⟨rfl, rfl⟩ := trodVars_none hV
  obtain ⟨a0, rfl, rfl, rfl, w0⟩ := open_int Try.underlying22 (hval 0 22 v0 rfl rfl) h0
  obtain ⟨a1, len1, cap1, rfl⟩ := okWide_slice Try.underlying23 (hval 1 23 v1 rfl rfl)
  have k1 := h1
  have lt1 : ∀ x ∈ p1, x.block < W.heap.size := by obtain ⟨m, hm⟩ := k1; exact DataW.trod_lt m _ _ _ hm
  obtain ⟨z1, w1⟩ : ∃ zs, IsRow .u8 W a1 len1 cap1 zs := by
    obtain ⟨fuel, hf⟩ := h1
    rcases open_ints Try.underlying23 Try.underlying5 (by kernel_rfl) hf with ⟨hcs, _⟩ | ⟨x, l, c, zs, hcs, _, hl, hm, hz, _, hcell, hwz⟩
    · simp [Value.cells] at hcs
      obtain ⟨rfl, rfl, rfl⟩ := hcs
      exact ⟨[], .inl ⟨rfl, rfl, rfl, rfl⟩⟩
    · simp [Value.cells] at hcs
      obtain ⟨rfl, rfl, rfl⟩ := hcs
      exact ⟨zs, .inr ⟨_, rfl, hl, hm, by simpa using hz, hcell, hwz⟩⟩
  clear hA0 hval0
  refine (walk a0 a1 len1 cap1 z1 W w0 w1).mono fun e W' ⟨he, bel⟩ => ?_
  subst he
  exact ⟨_, rfl, _, _, _, [], _, [], hW', trodAll_mk1 (shut_bool Try.underlying4 _), (trodAll_cons_mk (shut_int Try.underlying22 w0) (trodAll_cons_mk (Below.trod laidOut (by kernel_rfl) (of_decide_eq_true (by kernel_rfl)) k1 bel lt1) trodAll_mk0)), rfl, bel.frame _, fun h => by cases h⟩

theorem over : Rows.varintTellsRow.holds Try.pinned (OpenSpec.ofChange Rows.varintTellsSpec) :=
  OpenClaim.holds_of_wide 3 Try.f3 rfl rfl rfl rfl rfl rfl rfl ⟨rfl, rfl, rfl, rfl, rfl⟩ rfl rfl rfl rfl rfl (by kernel_rfl) Try.func3 (by kernel_rfl)
    (of_decide_eq_true (by kernel_rfl)) (by unfold Func.isWrapper; first | (rw [if_pos (by decide +kernel)]; kernel_rfl) | (rw [if_neg (by decide +kernel)]; exact ⟨rfl, rfl⟩))
    (fun os started H enc _ => lifted os started H enc)

/-- ████ THE STATEMENT ████ -/
theorem proved : Rows.VarintTellsSaid := over
#print axioms proved
end Go.Proofs.Ytminpknmlfmihaa.varintTells
