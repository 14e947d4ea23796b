/-
  'skylight/skylightlaw02.CodecWrites' returns true for every input, and the input reads afterwards as it read before. Conditions: none.
-/
import Derived.Test.YtemplngmkpldeaaRows
import Derived.WalkKit
import Derived.ProofKit
import Derived.OpenShut
import Derived.ShutString
import Derived.ChangeOld
import Derived.Below
import Derived.Test.YtemplngmkpldeaaOpen
import Derived.Test.YtemplngmkpldeaaCAwake
namespace Go.Proofs.Ytemplngmkpldeaa.codecWrites
open Go.Proofs Go.Proofs.Vm Go.Proofs.Rf
open Go.ChangeShapes Go.WideShapes Go.ChangeAt Go.RowKit
open Go.ChangeMaps (open_string shut_string)
set_option linter.unusedVariables false

theorem own : ownKnob Try.prog.godebug = none := by kernel_rfl
theorem laidOut : laidOutB Try.prog = true := by kernel_rfl

/-- A slice of integers that came in: nil, or a row of cells of its capacity, each fitting its kind. -/
def IsRow (k : IntKind) (w : World) (a : Option Addr) (len cap : Nat) (zs : List Int) : Prop :=
  (a = none ∧ len = 0 ∧ cap = 0 ∧ zs = []) ∨
  ∃ x, a = some x ∧ len ≤ cap ∧ cap ≤ maxLen ∧ zs.length = cap ∧ (∀ i, i < zs.length → w.cell? (x.add i) = some (.int k (zs.getD i 0))) ∧ ∀ n ∈ zs, (Lit.int k n).wf = true



set_option maxRecDepth 100000 in
set_option maxHeartbeats 4000000 in
theorem walk (a0 : Int) (a1 : Option Addr) (len1 cap1 : Nat) (z1 : List Int) (w : World) (w0 : (Lit.int .u64 a0).wf = true) (w1 : IsRow .u8 w a1 len1 cap1 z1) :
    Calls Try.prog 3 #[.int .u64 a0, .slice a1 len1 cap1] w fun e w' => e = .returned (.bool true) ∧ Below w.heap.size w w' := by
  obtain ⟨b0, b1⟩ := bounds_u64 w0
  obtain ⟨n, rfl⟩ : ∃ n : Nat, a0 = n := ⟨a0.toNat, by omega⟩
  have hn : n < 18446744073709551616 := by omega
  have HHN := Lib.hid hn
  obtain ⟨hh, hl, hbd⟩ := holds_of_row w1
  clear w0 w1 b0 hn
  obtain ⟨bs, hbs⟩ : ∃ bs, z1.take len1 = bs := ⟨_, rfl⟩
  rw [hbs] at hh hl hbd
  subst hl
  have HH := Lib.hid hh
  have HBD := Lib.hid hbd
  clear hbs hh hbd
  by_cases h300 : 300 < bs.length
  · go_enter Try.func3, Try.ntmps3
    go_wp2_with (go_at_call 8; refine (awake_any _).mono ?_; rintro e wa ⟨rfl, hba⟩; have HA := Lib.hid hba; clear hba)
    go_ret
    exact ⟨rfl, HA.out⟩
  · go_enter Try.func3, Try.ntmps3
    go_wp2_with (go_at_call 8; refine (awake_any _).mono ?_; rintro e wa ⟨rfl, hba⟩; have HA := Lib.hid hba; clear hba)
    refine region_facts (b := ?fbA) (fr := ?frA) 2 25 [13, 14, 15, 16, 17, 18, 19, 20, 21, 22, 23, 24, 25, 26, 27, 28, 29, 30, 31, 32, 33, 34, 35, 36, 37] (fun i v W => match i with
        | 2 => v = .int .u64 n
        | 3 => Holds W W.heap.size v (vput n)
        | 4 => v = .string (strOf (vput n))
        | 5 => v = .int .u64 n
        | 6 => Holds W W.heap.size v (vput n)
        | 7 => v = .string (strOf (vput n))
        | 8 => v = .bool true
        | 9 => v = .bool true
        | 10 => v = .bool true
        | 11 => v = .int .u64 n
        | 12 => Holds W W.heap.size v (vfix n)
        | 13 => v = .string (strOf (vfix n))
        | 14 => v = .int .u64 n
        | 15 => Holds W W.heap.size v (vfix n)
        | 16 => v = .string (strOf (vfix n))
        | 17 => v = .bool true
        | 18 => v = .bool true
        | 19 => v = .bool true
        | 20 => v = .slice a1 bs.length cap1
        | 21 => Holds W W.heap.size v (vtext bs)
        | 22 => v = .string (strOf (vtext bs))
        | 23 => v = .slice a1 bs.length cap1
        | 24 => Holds W W.heap.size v (vtext bs)
        | 25 => v = .string (strOf (vtext bs))
        | 26 => v = .bool true
        | _ => True) rfl ?hBA (by kernel_rfl) (by kernel_rfl) (by kernel_rfl) (by kernel_rfl) ?hQA (by kernel_rfl) ?hpreA ?hfrA ?hFA ?hopA ?htailA
    case hpreA =>
      simp only [List.take]
      repeat (go_big_quiet_step (fail))
      refine wpQuiet_nil ?_
      rfl
    case hBA => kernel_rfl
    case hQA => intro c a d v w h; cases d <;> exact h
    case hfrA =>
      intro us
      simp only [putL]
      go_simp
      rfl
    case hFA =>
      intro i v W W' hG h
      match i with
      | 2 => exact h
      | 3 => exact (Holds.mono (Holds.below h hG) hG.size)
      | 4 => exact h
      | 5 => exact h
      | 6 => exact (Holds.mono (Holds.below h hG) hG.size)
      | 7 => exact h
      | 8 => exact h
      | 9 => exact h
      | 10 => exact h
      | 11 => exact h
      | 12 => exact (Holds.mono (Holds.below h hG) hG.size)
      | 13 => exact h
      | 14 => exact h
      | 15 => exact (Holds.mono (Holds.below h hG) hG.size)
      | 16 => exact h
      | 17 => exact h
      | 18 => exact h
      | 19 => exact h
      | 20 => exact h
      | 21 => exact (Holds.mono (Holds.below h hG) hG.size)
      | 22 => exact h
      | 23 => exact h
      | 24 => exact (Holds.mono (Holds.below h hG) hG.size)
      | 25 => exact h
      | 26 => exact h
      | 0 | 1 => trivial
      | n + 27 => trivial
    case hopA =>
      intro i hsi hi us W2 hG hd
      obtain ⟨d, rfl⟩ : ∃ d, i = 2 + d := ⟨i - 2, by omega⟩
      have hdn : d < 25 := by omega
      match d, hdn with
      | 0, _ =>
        clear hd
        exact hop_value rfl rfl rfl (v := .int .u64 n) (W' := W2) (by go_simp) (Grows.refl _) rfl
      | 1, _ =>
        have h2 : (us 2) = .int .u64 n := hd 2 (by omega) (by omega) (by kernel_rfl)
        clear hd
        refine hop_call rfl rfl rfl (f := 9) (args := #[.int .u64 n]) (by go_simp) ?_
        exact (num_own n HHN.out W2).mono fun _ _ ⟨v, he, hv, hb⟩ => ⟨v, he, hb, Holds.of_own hv⟩
      | 2, _ =>
        have h3 : Holds W2 W2.heap.size (us 3) (vput n) := hd 3 (by omega) (by omega) (by kernel_rfl)
        have r3 := run_str h3 (vput_bounds n)
        clear hd
        exact hop_value rfl rfl rfl (v := .string (strOf (vput n))) (W' := W2) (by go_simp) (Grows.refl _) rfl
      | 3, _ =>
        clear hd
        exact hop_value rfl rfl rfl (v := .int .u64 n) (W' := W2) (by go_simp) (Grows.refl _) rfl
      | 4, _ =>
        have h5 : (us 5) = .int .u64 n := hd 5 (by omega) (by omega) (by kernel_rfl)
        clear hd
        refine hop_call rfl rfl rfl (f := 10) (args := #[.int .u64 n]) (by go_simp) ?_
        exact (rfNum_own n HHN.out W2).mono fun _ _ ⟨v, he, hv, hb⟩ => ⟨v, he, hb, Holds.of_own hv⟩
      | 5, _ =>
        have h6 : Holds W2 W2.heap.size (us 6) (vput n) := hd 6 (by omega) (by omega) (by kernel_rfl)
        have r6 := run_str h6 (vput_bounds n)
        clear hd
        exact hop_value rfl rfl rfl (v := .string (strOf (vput n))) (W' := W2) (by go_simp) (Grows.refl _) rfl
      | 6, _ =>
        have h4 : (us 4) = .string (strOf (vput n)) := hd 4 (by omega) (by omega) (by kernel_rfl)
        have h7 : (us 7) = .string (strOf (vput n)) := hd 7 (by omega) (by omega) (by kernel_rfl)
        clear hd
        exact hop_value rfl rfl rfl (v := .bool true) (W' := W2) (by go_simp) (Grows.refl _) rfl
      | 7, _ =>
        have h8 : (us 8) = .bool true := hd 8 (by omega) (by omega) (by kernel_rfl)
        clear hd
        exact hop_value rfl rfl rfl (v := .bool true) (W' := W2) (by go_simp) (Grows.refl _) rfl
      | 8, _ =>
        have h9 : (us 9) = .bool true := hd 9 (by omega) (by omega) (by kernel_rfl)
        clear hd
        exact hop_value rfl rfl rfl (v := .bool true) (W' := W2) (by go_simp) (Grows.refl _) rfl
      | 9, _ =>
        have h10 : (us 10) = .bool true := hd 10 (by omega) (by omega) (by kernel_rfl)
        clear hd
        rw [h10]
        exact hop_value rfl rfl rfl (v := .int .u64 n) (W' := W2) (by go_simp) (Grows.refl _) rfl
      | 10, _ =>
        have h11 : (us 11) = .int .u64 n := hd 11 (by omega) (by omega) (by kernel_rfl)
        have h10 : (us 10) = .bool true := hd 10 (by omega) (by omega) (by kernel_rfl)
        clear hd
        rw [h10]
        refine hop_call rfl rfl rfl (f := 11) (args := #[.int .u64 n]) (by go_simp) ?_
        exact (fixed_own n HHN.out W2).mono fun _ _ ⟨v, he, hv, hb⟩ => ⟨v, he, hb, Holds.of_own hv⟩
      | 11, _ =>
        have h12 : Holds W2 W2.heap.size (us 12) (vfix n) := hd 12 (by omega) (by omega) (by kernel_rfl)
        have h10 : (us 10) = .bool true := hd 10 (by omega) (by omega) (by kernel_rfl)
        have r12 := run_str h12 (vfix_bounds n)
        clear hd
        rw [h10]
        exact hop_value rfl rfl rfl (v := .string (strOf (vfix n))) (W' := W2) (by go_simp) (Grows.refl _) rfl
      | 12, _ =>
        have h10 : (us 10) = .bool true := hd 10 (by omega) (by omega) (by kernel_rfl)
        clear hd
        rw [h10]
        exact hop_value rfl rfl rfl (v := .int .u64 n) (W' := W2) (by go_simp) (Grows.refl _) rfl
      | 13, _ =>
        have h14 : (us 14) = .int .u64 n := hd 14 (by omega) (by omega) (by kernel_rfl)
        have h10 : (us 10) = .bool true := hd 10 (by omega) (by omega) (by kernel_rfl)
        clear hd
        rw [h10]
        refine hop_call rfl rfl rfl (f := 12) (args := #[.int .u64 n]) (by go_simp) ?_
        exact (rfFixed_own n HHN.out W2).mono fun _ _ ⟨v, he, hv, hb⟩ => ⟨v, he, hb, Holds.of_own hv⟩
      | 14, _ =>
        have h15 : Holds W2 W2.heap.size (us 15) (vfix n) := hd 15 (by omega) (by omega) (by kernel_rfl)
        have h10 : (us 10) = .bool true := hd 10 (by omega) (by omega) (by kernel_rfl)
        have r15 := run_str h15 (vfix_bounds n)
        clear hd
        rw [h10]
        exact hop_value rfl rfl rfl (v := .string (strOf (vfix n))) (W' := W2) (by go_simp) (Grows.refl _) rfl
      | 15, _ =>
        have h13 : (us 13) = .string (strOf (vfix n)) := hd 13 (by omega) (by omega) (by kernel_rfl)
        have h16 : (us 16) = .string (strOf (vfix n)) := hd 16 (by omega) (by omega) (by kernel_rfl)
        have h10 : (us 10) = .bool true := hd 10 (by omega) (by omega) (by kernel_rfl)
        clear hd
        rw [h10]
        exact hop_value rfl rfl rfl (v := .bool true) (W' := W2) (by go_simp) (Grows.refl _) rfl
      | 16, _ =>
        have h10 : (us 10) = .bool true := hd 10 (by omega) (by omega) (by kernel_rfl)
        have h17 : (us 17) = .bool true := hd 17 (by omega) (by omega) (by kernel_rfl)
        clear hd
        exact hop_value rfl rfl rfl (v := .bool true) (W' := W2) (by go_simp) (Grows.refl _) rfl
      | 17, _ =>
        have h18 : (us 18) = .bool true := hd 18 (by omega) (by omega) (by kernel_rfl)
        clear hd
        exact hop_value rfl rfl rfl (v := .bool true) (W' := W2) (by go_simp) (Grows.refl _) rfl
      | 18, _ =>
        have h19 : (us 19) = .bool true := hd 19 (by omega) (by omega) (by kernel_rfl)
        clear hd
        rw [h19]
        exact hop_value rfl rfl rfl (v := .slice a1 bs.length cap1) (W' := W2) (by go_simp) (Grows.refl _) rfl
      | 19, _ =>
        have h20 : (us 20) = .slice a1 bs.length cap1 := hd 20 (by omega) (by omega) (by kernel_rfl)
        have h19 : (us 19) = .bool true := hd 19 (by omega) (by omega) (by kernel_rfl)
        clear hd
        rw [h19]
        refine hop_call rfl rfl rfl (f := 13) (args := #[.slice a1 bs.length cap1]) (by go_simp) ?_
        exact (text_own ((HH.out.below (HA.out.trans (Below.mono hG HA.out.size))).mono (Nat.le_trans HA.out.size hG.size)) (by omega)).mono fun _ _ ⟨v, he, hv, hb⟩ => ⟨v, he, hb, Holds.of_own hv⟩
      | 20, _ =>
        have h21 : Holds W2 W2.heap.size (us 21) (vtext bs) := hd 21 (by omega) (by omega) (by kernel_rfl)
        have h19 : (us 19) = .bool true := hd 19 (by omega) (by omega) (by kernel_rfl)
        have r21 := run_str h21 (vtext_bounds HBD.out)
        clear hd
        rw [h19]
        exact hop_value rfl rfl rfl (v := .string (strOf (vtext bs))) (W' := W2) (by go_simp) (Grows.refl _) rfl
      | 21, _ =>
        have h19 : (us 19) = .bool true := hd 19 (by omega) (by omega) (by kernel_rfl)
        clear hd
        rw [h19]
        exact hop_value rfl rfl rfl (v := .slice a1 bs.length cap1) (W' := W2) (by go_simp) (Grows.refl _) rfl
      | 22, _ =>
        have h23 : (us 23) = .slice a1 bs.length cap1 := hd 23 (by omega) (by omega) (by kernel_rfl)
        have h19 : (us 19) = .bool true := hd 19 (by omega) (by omega) (by kernel_rfl)
        clear hd
        rw [h19]
        refine hop_call rfl rfl rfl (f := 14) (args := #[.slice a1 bs.length cap1]) (by go_simp) ?_
        exact (rfText_own ((HH.out.below (HA.out.trans (Below.mono hG HA.out.size))).mono (Nat.le_trans HA.out.size hG.size)) (by omega)).mono fun _ _ ⟨v, he, hv, hb⟩ => ⟨v, he, hb, Holds.of_own hv⟩
      | 23, _ =>
        have h24 : Holds W2 W2.heap.size (us 24) (vtext bs) := hd 24 (by omega) (by omega) (by kernel_rfl)
        have h19 : (us 19) = .bool true := hd 19 (by omega) (by omega) (by kernel_rfl)
        have r24 := run_str h24 (vtext_bounds HBD.out)
        clear hd
        rw [h19]
        exact hop_value rfl rfl rfl (v := .string (strOf (vtext bs))) (W' := W2) (by go_simp) (Grows.refl _) rfl
      | 24, _ =>
        have h22 : (us 22) = .string (strOf (vtext bs)) := hd 22 (by omega) (by omega) (by kernel_rfl)
        have h25 : (us 25) = .string (strOf (vtext bs)) := hd 25 (by omega) (by omega) (by kernel_rfl)
        have h19 : (us 19) = .bool true := hd 19 (by omega) (by omega) (by kernel_rfl)
        clear hd
        rw [h19]
        exact hop_value rfl rfl rfl (v := .bool true) (W' := W2) (by go_simp) (Grows.refl _) rfl
      | d + 25, h => exact absurd h (by omega)
    case htailA =>
      intro us W2 hG hf
      have h19 : (us 19) = .bool true := hf 19 (by omega) (by omega)
      have h26 : (us 26) = .bool true := hf 26 (by omega) (by omega)
      clear hf
      rw [h19, h26]
      simp only [List.drop]
      repeat (go_big_quiet_step (fail))
      refine wpQuiet_nil ?_
      rintro w' ⟨nq, rfl⟩
      go_wp2
      go_ret
      exact ⟨rfl, HA.out.trans (Below.mono (hG.drewN nq) HA.out.size)⟩

set_option maxRecDepth 100000 in
theorem lifted (os : Os) (started : os.Started) (H : Type) (enc : TypeId × Value → H) :
    ReturnsInHanded {} Try.checked os 3 .any (Rows.codecWritesSpec.pre6 enc Try.prog Try.f3 Rows.codecWritesRow.domain false) (Rows.codecWritesSpec.post enc Try.prog Try.f3 false true false false) := by
  refine returnsInHanded_of_change (C := Try.checked) own started (by kernel_rfl) Try.func3
    (ChangeSpec.witness6 (enc := enc) (C := Try.checked) false ⟨#[], #[.int .u64 0, .slice none 0 0], []⟩ 8 (by kernel_rfl) (by kernel_rfl) (by kernel_rfl) (by kernel_rfl)) ?_
  intro W base args ds gs before hval0 hW hcnd _
  have hval : ∀ (j : Nat) t v, Try.f3.params[j]? = some t → args[j]? = some v → Value.okWide Try.prog W .any base t v := hval0
  have hW' := hW
  obtain ⟨p, q, hA0, hV, rfl, hfz, hnd⟩ := hW
  have hA : DataW.TrodAll enc Try.prog W 0 (fun _ => true) true Try.f3.params.toList args.toList ds p := hA0
  rw [Try.params3] at hA hval
  obtain ⟨v0, vs0, d0, ds0, p0, q0, hargs, rfl, rfl, h0, r0⟩ := trodAll_cons hA
  obtain ⟨v1, vs1, d1, ds1, p1, q1, rfl, rfl, rfl, h1, r1⟩ := trodAll_cons r0
  obtain ⟨rfl, rfl, rfl⟩ := trodAll_nil r1
  obtain rfl : args = #[v0, v1] := by cases args; simp_all
  obtain ⟨rfl, rfl⟩ := trodVars_none hV
  obtain ⟨a0, rfl, rfl, rfl, w0⟩ := open_int Try.underlying22 (hval 0 22 v0 rfl rfl) h0
  obtain ⟨a1, len1, cap1, rfl⟩ := okWide_slice Try.underlying23 (hval 1 23 v1 rfl rfl)
  have k1 := h1
  have lt1 : ∀ x ∈ p1, x.block < W.heap.size := by obtain ⟨m, hm⟩ := k1; exact DataW.trod_lt m _ _ _ hm
  obtain ⟨z1, w1⟩ : ∃ zs, IsRow .u8 W a1 len1 cap1 zs := by
    obtain ⟨fuel, hf⟩ := h1
    rcases open_ints Try.underlying23 Try.underlying5 (by kernel_rfl) hf with ⟨hcs, _⟩ | ⟨x, l, c, zs, hcs, _, hl, hm, hz, _, hcell, hwz⟩
    · simp [Value.cells] at hcs
      obtain ⟨rfl, rfl, rfl⟩ := hcs
      exact ⟨[], .inl ⟨rfl, rfl, rfl, rfl⟩⟩
    · simp [Value.cells] at hcs
      obtain ⟨rfl, rfl, rfl⟩ := hcs
      exact ⟨zs, .inr ⟨_, rfl, hl, hm, by simpa using hz, hcell, hwz⟩⟩
  clear hA0 hval0
  refine (walk a0 a1 len1 cap1 z1 W w0 w1).mono fun e W' ⟨he, bel⟩ => ?_
  subst he
  exact ⟨_, rfl, _, _, _, [], _, [], hW', trodAll_mk1 (shut_bool Try.underlying4 _), (trodAll_cons_mk (shut_int Try.underlying22 w0) (trodAll_cons_mk (Below.trod laidOut (by kernel_rfl) (of_decide_eq_true (by kernel_rfl)) k1 bel lt1) trodAll_mk0)), rfl, bel.frame _, fun h => by cases h⟩

theorem over : Rows.codecWritesRow.holds Try.pinned (OpenSpec.ofChange Rows.codecWritesSpec) :=
  OpenClaim.holds_of_wide 3 Try.f3 rfl rfl rfl rfl rfl rfl rfl ⟨rfl, rfl, rfl, rfl, rfl⟩ rfl rfl rfl rfl rfl (by kernel_rfl) Try.func3 (by kernel_rfl)
    (of_decide_eq_true (by kernel_rfl)) (by unfold Func.isWrapper; first | (rw [if_pos (by decide +kernel)]; kernel_rfl) | (rw [if_neg (by decide +kernel)]; exact ⟨rfl, rfl⟩))
    (fun os started H enc _ => lifted os started H enc)

/-- The statement. -/
theorem proved : Rows.CodecWritesSaid := over
#print axioms proved
end Go.Proofs.Ytemplngmkpldeaa.codecWrites
