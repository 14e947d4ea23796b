/-
  'skylight/skylightlaw02.CodecBack' returns true for every input, and the input reads afterwards as it read before. Conditions: none.
-/
import Derived.Test.YtemplngmkpldeaaRows
import Derived.WalkKit
import Derived.ProofKit
import Derived.OpenShut
import Derived.ShutString
import Derived.ChangeOld
import Derived.Below
import Derived.Test.YtemplngmkpldeaaOpen
import Derived.Test.YtemplngmkpldeaaCAwake
namespace Go.Proofs.Ytemplngmkpldeaa.codecBack
open Go.Proofs Go.Proofs.Vm Go.Proofs.Rf
open Go.ChangeShapes Go.WideShapes Go.ChangeAt Go.RowKit
open Go.ChangeMaps (open_string shut_string)
set_option linter.unusedVariables false

theorem own : ownKnob Try.prog.godebug = none := by kernel_rfl
theorem laidOut : laidOutB Try.prog = true := by kernel_rfl

/-- A slice of integers that came in: nil, or a row of cells of its capacity, each fitting its kind. -/
def IsRow (k : IntKind) (w : World) (a : Option Addr) (len cap : Nat) (zs : List Int) : Prop :=
  (a = none ∧ len = 0 ∧ cap = 0 ∧ zs = []) ∨
  ∃ x, a = some x ∧ len ≤ cap ∧ cap ≤ maxLen ∧ zs.length = cap ∧ (∀ i, i < zs.length → w.cell? (x.add i) = some (.int k (zs.getD i 0))) ∧ ∀ n ∈ zs, (Lit.int k n).wf = true



set_option maxRecDepth 100000 in
set_option maxHeartbeats 4000000 in
theorem walk (a0 : Int) (a1 : Int) (a2 : Option Addr) (len2 cap2 : Nat) (z2 : List Int) (w : World) (w0 : (Lit.int .u64 a0).wf = true) (w1 : (Lit.int .u64 a1).wf = true) (w2 : IsRow .u8 w a2 len2 cap2 z2) :
    Calls Try.prog 5 #[.int .u64 a0, .int .u64 a1, .slice a2 len2 cap2] w fun e w' => e = .returned (.bool true) ∧ Below w.heap.size w w' := by
  obtain ⟨b0, b1⟩ := bounds_u64 w0
  obtain ⟨c0, c1⟩ := bounds_u64 w1
  obtain ⟨n, rfl⟩ : ∃ n : Nat, a0 = n := ⟨a0.toNat, by omega⟩
  obtain ⟨m, rfl⟩ : ∃ m : Nat, a1 = m := ⟨a1.toNat, by omega⟩
  have hn : n < 18446744073709551616 := by omega
  have hm : m < 18446744073709551616 := by omega
  have HHN := Lib.hid hn
  have HHM := Lib.hid hm
  obtain ⟨hh, hl, hbd⟩ := holds_of_row w2
  clear w0 w1 w2 b0 c0
  obtain ⟨bs, hbs⟩ : ∃ bs, z2.take len2 = bs := ⟨_, rfl⟩
  rw [hbs] at hh hl hbd
  subst hl
  have HH := Lib.hid hh
  have HBD := Lib.hid hbd
  clear hbs hh
  by_cases h300 : 300 < bs.length
  · clear hn hm hbd
    go_enter Try.func5, Try.ntmps5
    go_wp2_with (go_at_call 8; refine (awake_any _).mono ?_; rintro e wa ⟨rfl, hba⟩; have HA := Lib.hid hba; clear hba)
    go_ret
    exact ⟨rfl, HA.out⟩
  · have HR1 : Hid (rNum (vput n ++ vfix m ++ vtext bs) 0 n = (vfix m ++ vtext bs, 0, n)) := by
      show rNum _ 0 n = _
      rw [List.append_assoc]
      exact rNum_put n hn _ n (Nat.le_refl _)
    have HR2 : Hid (rFixed (vfix m ++ vtext bs) 0 = (vtext bs, 0, m)) := rFixed_fix m hm _
    have HR3 : Hid (rText (vtext bs) 0 (bs.length : Int) = ([], 0, bs)) := by
      have := rText_text bs [] (by omega) bs.length (by omega)
      rw [List.append_nil] at this
      exact this
    have HB0 : Hid (∀ x ∈ vput n ++ vfix m ++ vtext bs, 0 ≤ x ∧ x ≤ 255) := app_bounds (app_bounds (vput_bounds n) (vfix_bounds m)) (vtext_bounds hbd)
    have HB1 : Hid (∀ x ∈ vfix m ++ vtext bs, 0 ≤ x ∧ x ≤ 255) := app_bounds (vfix_bounds m) (vtext_bounds hbd)
    have HB2 : Hid (∀ x ∈ vtext bs, 0 ≤ x ∧ x ≤ 255) := vtext_bounds hbd
    have hl1 := vput_len10 n hn
    have hl2 := vfix_len m
    have hl3 := vtext_len bs
    have hl4 := vput_len10 bs.length (by omega)
    have HL : Hid ((vput n).length ≤ 10 ∧ (vfix m).length ≤ 8 ∧ (vtext bs).length ≤ 310) := ⟨hl1, by omega, by omega⟩
    clear hl1 hl2 hl3 hl4 hbd hn hm
    go_enter Try.func5, Try.ntmps5
    go_wp2_with (first
      | (go_at_call 8; refine (awake_any _).mono ?_; rintro e wa ⟨rfl, hba⟩; have HA := Lib.hid hba; clear hba)
      | (go_at_call 9; (with_reducible refine (num_own n HHN.out _).mono ?_); rintro e w1 ⟨v1, rfl, h1, hb1⟩; have O0 := Lib.hid (ownsRow_below (World.ownsRow_made wa #[] 0 (Nat.le_refl wa.heap.size) (by decide) (show (#[] : Array Value).size = 0 * 1 from rfl) (e := 5)) hb1); have H1 := Lib.hid h1; have G1 := Lib.hid (thn ((Below.refl wa.heap.size wa).alloc (Nat.le_refl _) _) hb1); clear h1 hb1)
      | (at_builtin; refine wpList_app _ rfl (.tmp 18) (.tmp 20) rfl wa.heap.size _ _ [] (vput n) w1.heap.size rfl O0.out rfl (Holds.of_own H1.out) (by have := HL.out.1; simp; omega) G1.out.size ?_; intro v2 w2 hown2 hg2; have H2 := Lib.hid hown2; have G2 := Lib.hid (G1.out.grown hg2 G1.out.size (fun j ej => by cases ej; exact Nat.le_refl _)); clear hown2 hg2)
      | (go_at_call 11; (with_reducible refine (fixed_own m HHM.out _).mono ?_); rintro e w3 ⟨v3, rfl, h3, hb3⟩; have O2 := Lib.hid (ownsRow_below H2.out hb3); have H3 := Lib.hid h3; have G3 := Lib.hid (thn G2.out hb3); clear h3 hb3)
      | (at_builtin; refine wpList_app _ rfl (.tmp 21) (.tmp 23) rfl wa.heap.size _ _ (vput n) (vfix m) w3.heap.size rfl O2.out rfl (Holds.of_own H3.out) (by have := HL.out; omega) G3.out.size ?_; intro v4 w4 hown4 hg4; have H4 := Lib.hid hown4; have G4 := Lib.hid (G3.out.grown hg4 G3.out.size (fun j ej => (O2.out.lt j ej).1)); clear hown4 hg4)
      | (go_at_call 13; (with_reducible refine (text_own ((HH.out.below (HA.out.trans (G4.out.mono HA.out.size))).mono (Nat.le_trans HA.out.size G4.out.size)) (by omega)).mono ?_); rintro e w5 ⟨v5, rfl, h5, hb5⟩; have O4 := Lib.hid (ownsRow_below H4.out hb5); have H5 := Lib.hid h5; have G5 := Lib.hid (thn G4.out hb5); clear h5 hb5)
      | (at_builtin; refine wpList_app _ rfl (.tmp 24) (.tmp 26) rfl wa.heap.size _ _ (vput n ++ vfix m) (vtext bs) w5.heap.size rfl O4.out rfl (Holds.of_own H5.out) (by have := HL.out; simp; omega) G5.out.size ?_; intro v6 w6 hown6 hg6; have H6 := Lib.hid hown6; have G6 := Lib.hid (G5.out.grown hg6 G5.out.size (fun j ej => (O4.out.lt j ej).1)); clear hown6 hg6)
      | (go_at_call 15; (with_reducible refine (new_any (Holds.of_own H6.out) (by have := HL.out; simp; omega)).mono ?_); rintro e w7 ⟨rb, rfl, hrb, h7, hb7⟩; have H7 := Lib.hid h7; have G7 := Lib.hid (thn G6.out hb7); have HRB := Lib.hid (Nat.le_trans G6.out.size hrb); clear h7 hb7)
      | (go_at_call 16; (with_reducible refine (rnumF H7.out HB0.out n).mono ?_); rintro e w8 ⟨rfl, h8, h9⟩; rw [HR1.out] at h8 ⊢; dsimp only at h8 ⊢; have H8 := Lib.hid h8; have G8 := Lib.hid (thnG G7.out h9 HRB.out); clear h8 h9)
      | (go_at_call 18; (with_reducible refine (rfixed_any H8.out HB1.out).mono ?_); rintro e w9 ⟨rfl, h8, h9⟩; rw [HR2.out] at h8 ⊢; dsimp only at h8 ⊢; have H9 := Lib.hid h8; have G9 := Lib.hid (thnG G8.out h9 HRB.out); clear h8 h9)
      | (go_at_call 20; (with_reducible refine (rtext_any H9.out HB2.out (by have := HL.out; omega) bs.length (by omega) (by omega)).mono ?_); rintro e wx ⟨vx, rfl, hx, h8, h9⟩; rw [HR3.out] at hx h8; dsimp only at hx h8; have HX := Lib.hid h8; have GX := Lib.hid (thnG G9.out h9 HRB.out); have r1 := own_str hx HBD.out; have r2 := run_str (HH.out.below (HA.out.trans (GX.out.mono HA.out.size))) HBD.out; clear hx h8 h9)
      | (go_at_call 25; (with_reducible refine (end_any HX.out).mono ?_); rintro e wy ⟨rfl, rfl⟩; dsimp only [rEnd])
      | (go_at_call 23; (with_reducible refine (left_any HX.out).mono ?_); rintro e wy ⟨rfl, rfl⟩))
    go_ret
    exact ⟨by simp, HA.out.trans (GX.out.mono HA.out.size)⟩

set_option maxRecDepth 100000 in
theorem lifted (os : Os) (started : os.Started) (H : Type) (enc : TypeId × Value → H) :
    ReturnsInHanded {} Try.checked os 5 .any (Rows.codecBackSpec.pre6 enc Try.prog Try.f5 Rows.codecBackRow.domain false) (Rows.codecBackSpec.post enc Try.prog Try.f5 false true false false) := by
  refine returnsInHanded_of_change (C := Try.checked) own started (by kernel_rfl) Try.func5
    (ChangeSpec.witness6 (enc := enc) (C := Try.checked) false ⟨#[], #[.int .u64 0, .int .u64 0, .slice none 0 0], []⟩ 8 (by kernel_rfl) (by kernel_rfl) (by kernel_rfl) (by kernel_rfl)) ?_
  intro W base args ds gs before hval0 hW hcnd _
  have hval : ∀ (j : Nat) t v, Try.f5.params[j]? = some t → args[j]? = some v → Value.okWide Try.prog W .any base t v := hval0
  have hW' := hW
  obtain ⟨p, q, hA0, hV, rfl, hfz, hnd⟩ := hW
  have hA : DataW.TrodAll enc Try.prog W 0 (fun _ => true) true Try.f5.params.toList args.toList ds p := hA0
  rw [Try.params5] at hA hval
  obtain ⟨v0, vs0, d0, ds0, p0, q0, hargs, rfl, rfl, h0, r0⟩ := trodAll_cons hA
  obtain ⟨v1, vs1, d1, ds1, p1, q1, rfl, rfl, rfl, h1, r1⟩ := trodAll_cons r0
  obtain ⟨v2, vs2, d2, ds2, p2, q2, rfl, rfl, rfl, h2, r2⟩ := trodAll_cons r1
  obtain ⟨rfl, rfl, rfl⟩ := trodAll_nil r2
  obtain rfl : args = #[v0, v1, v2] := by cases args; simp_all
  obtain ⟨rfl, rfl⟩ := trodVars_none hV
  obtain ⟨a0, rfl, rfl, rfl, w0⟩ := open_int Try.underlying22 (hval 0 22 v0 rfl rfl) h0
  obtain ⟨a1, rfl, rfl, rfl, w1⟩ := open_int Try.underlying22 (hval 1 22 v1 rfl rfl) h1
  obtain ⟨a2, len2, cap2, rfl⟩ := okWide_slice Try.underlying23 (hval 2 23 v2 rfl rfl)
  have k2 := h2
  have lt2 : ∀ x ∈ p2, x.block < W.heap.size := by obtain ⟨m, hm⟩ := k2; exact DataW.trod_lt m _ _ _ hm
  obtain ⟨z2, w2⟩ : ∃ zs, IsRow .u8 W a2 len2 cap2 zs := by
    obtain ⟨fuel, hf⟩ := h2
    rcases open_ints Try.underlying23 Try.underlying5 (by kernel_rfl) hf with ⟨hcs, _⟩ | ⟨x, l, c, zs, hcs, _, hl, hm, hz, _, hcell, hwz⟩
    · simp [Value.cells] at hcs
      obtain ⟨rfl, rfl, rfl⟩ := hcs
      exact ⟨[], .inl ⟨rfl, rfl, rfl, rfl⟩⟩
    · simp [Value.cells] at hcs
      obtain ⟨rfl, rfl, rfl⟩ := hcs
      exact ⟨zs, .inr ⟨_, rfl, hl, hm, by simpa using hz, hcell, hwz⟩⟩
  clear hA0 hval0
  refine (walk a0 a1 a2 len2 cap2 z2 W w0 w1 w2).mono fun e W' ⟨he, bel⟩ => ?_
  subst he
  exact ⟨_, rfl, _, _, _, [], _, [], hW', trodAll_mk1 (shut_bool Try.underlying4 _), (trodAll_cons_mk (shut_int Try.underlying22 w0) (trodAll_cons_mk (shut_int Try.underlying22 w1) (trodAll_cons_mk (Below.trod laidOut (by kernel_rfl) (of_decide_eq_true (by kernel_rfl)) k2 bel lt2) trodAll_mk0))), rfl, bel.frame _, fun h => by cases h⟩

theorem over : Rows.codecBackRow.holds Try.pinned (OpenSpec.ofChange Rows.codecBackSpec) :=
  OpenClaim.holds_of_wide 5 Try.f5 rfl rfl rfl rfl rfl rfl rfl ⟨rfl, rfl, rfl, rfl, rfl⟩ rfl rfl rfl rfl rfl (by kernel_rfl) Try.func5 (by kernel_rfl)
    (of_decide_eq_true (by kernel_rfl)) (by unfold Func.isWrapper; first | (rw [if_pos (by decide +kernel)]; kernel_rfl) | (rw [if_neg (by decide +kernel)]; exact ⟨rfl, rfl⟩))
    (fun os started H enc _ => lifted os started H enc)

/-- The statement. -/
theorem proved : Rows.CodecBackSaid := over
#print axioms proved
end Go.Proofs.Ytemplngmkpldeaa.codecBack
