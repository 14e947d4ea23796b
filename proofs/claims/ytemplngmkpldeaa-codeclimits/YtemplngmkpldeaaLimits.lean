/-
  'skylight/skylightlaw02.CodecLimits' returns true for every input, and the input reads afterwards as it read before. Conditions: none.
-/
import Derived.Test.YtemplngmkpldeaaRows
import Derived.WalkKit
import Derived.ProofKit
import Derived.OpenShut
import Derived.ShutString
import Derived.ChangeOld
import Derived.Below
import Derived.Test.YtemplngmkpldeaaOpen
import Derived.Test.YtemplngmkpldeaaCAwake
namespace Go.Proofs.Ytemplngmkpldeaa.codecLimits
open Go.Proofs Go.Proofs.Vm Go.Proofs.Rf
open Go.ChangeShapes Go.WideShapes Go.ChangeAt Go.RowKit
open Go.ChangeMaps (open_string shut_string)
set_option linter.unusedVariables false

theorem own : ownKnob Try.prog.godebug = none := by kernel_rfl
theorem laidOut : laidOutB Try.prog = true := by kernel_rfl

/-- A slice of integers that came in: nil, or a row of cells of its capacity, each fitting its kind. -/
def IsRow (k : IntKind) (w : World) (a : Option Addr) (len cap : Nat) (zs : List Int) : Prop :=
  (a = none ∧ len = 0 ∧ cap = 0 ∧ zs = []) ∨
  ∃ x, a = some x ∧ len ≤ cap ∧ cap ≤ maxLen ∧ zs.length = cap ∧ (∀ i, i < zs.length → w.cell? (x.add i) = some (.int k (zs.getD i 0))) ∧ ∀ n ∈ zs, (Lit.int k n).wf = true



set_option maxRecDepth 100000 in
set_option maxHeartbeats 4000000 in
theorem walk (a0 : Int) (a1 : Option Addr) (len1 cap1 : Nat) (z1 : List Int) (w : World) (w0 : (Lit.int .u64 a0).wf = true) (w1 : IsRow .u8 w a1 len1 cap1 z1) :
    Calls Try.prog 6 #[.int .u64 a0, .slice a1 len1 cap1] w fun e w' => e = .returned (.bool true) ∧ Below w.heap.size w w' := by
  obtain ⟨b0, b1⟩ := bounds_u64 w0
  obtain ⟨n, rfl⟩ : ∃ n : Nat, a0 = n := ⟨a0.toNat, by omega⟩
  have hn : n < 18446744073709551616 := by omega
  have HHN := Lib.hid hn
  obtain ⟨hh, hl, hbd⟩ := holds_of_row w1
  clear w0 w1 b0
  obtain ⟨bs, hbs⟩ : ∃ bs, z1.take len1 = bs := ⟨_, rfl⟩
  rw [hbs] at hh hl hbd
  subst hl
  have HH := Lib.hid hh
  have HBD := Lib.hid hbd
  clear hbs hh
  have hcase : 300 < bs.length ∨ (¬ 300 < bs.length ∧ bs.length = 0) ∨ (¬ 300 < bs.length ∧ 0 < bs.length ∧ n = 0) ∨ (¬ 300 < bs.length ∧ 0 < bs.length ∧ 0 < n) := by omega
  rcases hcase with h300 | ⟨h300, h0⟩ | ⟨h300, h0, hz⟩ | ⟨h300, h0, hz⟩
  · clear hn hbd
    go_enter Try.func6, Try.ntmps6
    go_wp2_with (go_at_call 8; refine (awake_any _).mono ?_; rintro e wa ⟨rfl, hba⟩; have HA := Lib.hid hba; clear hba)
    go_ret
    exact ⟨rfl, HA.out⟩
  · clear hn hbd
    have h0' : ((bs.length : Int) == 0) = true := by simp [h0]
    go_enter Try.func6, Try.ntmps6
    go_wp2_with (go_at_call 8; refine (awake_any _).mono ?_; rintro e wa ⟨rfl, hba⟩; have HA := Lib.hid hba; clear hba)
    go_ret
    exact ⟨rfl, HA.out⟩
  · clear hn hbd
    subst hz
    have h0' : ((bs.length : Int) == 0) = false := by rw [beq_eq_false_iff_ne]; omega
    go_enter Try.func6, Try.ntmps6
    go_wp2_with (go_at_call 8; refine (awake_any _).mono ?_; rintro e wa ⟨rfl, hba⟩; have HA := Lib.hid hba; clear hba)
    go_ret
    exact ⟨rfl, HA.out⟩
  · have HR1 : Hid (rNum (vput n ++ vtext bs) 0 (n - 1) = (vput n ++ vtext bs, 2, 0)) := rNum_form n hn _ _ (by omega)
    have HR2 : Hid (rNum (vput n ++ vtext bs) 2 n = (vput n ++ vtext bs, 2, 0)) := rNum_bad _ 2 (by omega) n
    have HR3 : Hid (rNum (vput n ++ vtext bs) 0 n = (vtext bs, 0, n)) := rNum_put n hn _ n (Nat.le_refl _)
    have HR4 : Hid (rText (vtext bs) 0 ((bs.length : Int) - 1) = (vtext bs, 2, [])) := by
      have := rText_form bs [] (by omega) ((bs.length : Int) - 1) (by omega)
      rw [List.append_nil] at this
      exact this
    have HB0 : Hid (∀ x ∈ vput n ++ vtext bs, 0 ≤ x ∧ x ≤ 255) := app_bounds (vput_bounds n) (vtext_bounds hbd)
    have HB2 : Hid (∀ x ∈ vtext bs, 0 ≤ x ∧ x ≤ 255) := vtext_bounds hbd
    have hl1 := vput_len10 n hn
    have hl3 := vtext_len bs
    have hl4 := vput_len10 bs.length (by omega)
    have HL : Hid ((vput n).length ≤ 10 ∧ (vtext bs).length ≤ 310) := ⟨hl1, by omega⟩
    have h0' : ((bs.length : Int) == 0) = false := by rw [beq_eq_false_iff_ne]; omega
    have hz' : ((n : Int) == 0) = false := by rw [beq_eq_false_iff_ne]; omega
    have hz2 : 0 ≤ (n : Int) - 1 := by omega
    have HL0 : Hid ((vput n ++ vtext bs).length ≤ 320) := by show (vput n ++ vtext bs).length ≤ 320; rw [List.length_append]; omega
    obtain ⟨B0, hE⟩ : ∃ B0, vput n ++ vtext bs = B0 := ⟨_, rfl⟩
    rw [hE] at HR1 HR2 HR3 HB0 HL0
    have HE := Lib.hid hE
    clear hl1 hl3 hl4 hbd hn hE
    go_enter Try.func6, Try.ntmps6
    go_wp2_with (first
      | (go_at_call 8; refine (awake_any _).mono ?_; rintro e wa ⟨rfl, hba⟩; have HA := Lib.hid hba; clear hba)
      | (go_at_call 9; (with_reducible refine (num_own n HHN.out _).mono ?_); rintro e w1 ⟨v1, rfl, h1, hb1⟩; have O0 := Lib.hid (ownsRow_below (World.ownsRow_made wa #[] 0 (Nat.le_refl wa.heap.size) (by decide) (show (#[] : Array Value).size = 0 * 1 from rfl) (e := 5)) hb1); have H1 := Lib.hid h1; have G1 := Lib.hid (thn ((Below.refl wa.heap.size wa).alloc (Nat.le_refl _) _) hb1); clear h1 hb1)
      | (at_builtin; refine wpList_app _ rfl (.tmp 28) (.tmp 30) rfl wa.heap.size _ _ [] (vput n) w1.heap.size rfl O0.out rfl (Holds.of_own H1.out) (by have := HL.out.1; simp; omega) G1.out.size ?_; intro v2 w2 hown2 hg2; have H2 := Lib.hid hown2; have G2 := Lib.hid (G1.out.grown hg2 G1.out.size (fun j ej => by cases ej; exact Nat.le_refl _)); clear hown2 hg2)
      | (go_at_call 13; (with_reducible refine (text_own ((HH.out.below (HA.out.trans (G2.out.mono HA.out.size))).mono (Nat.le_trans HA.out.size G2.out.size)) (by omega)).mono ?_); rintro e w5 ⟨v5, rfl, h5, hb5⟩; have O4 := Lib.hid (ownsRow_below H2.out hb5); have H5 := Lib.hid h5; have G5 := Lib.hid (thn G2.out hb5); clear h5 hb5)
      | (at_builtin; refine wpList_app _ rfl (.tmp 31) (.tmp 33) rfl wa.heap.size _ _ (vput n) (vtext bs) w5.heap.size rfl O4.out rfl (Holds.of_own H5.out) (by have := HL.out; omega) G5.out.size ?_; intro v6 w6 hown6 hg6; rw [HE.out] at hown6; have H6 := Lib.hid hown6; obtain ⟨A6, c6, rfl, _, _, _⟩ := Holds.of_own hown6; have G6 := Lib.hid (G5.out.grown hg6 G5.out.size (fun j ej => (O4.out.lt j ej).1)); clear hown6 hg6)
      | (go_at_call 15; (refine (new_any (Holds.of_own H6.out) (by have := HL0.out; omega)).mono ?_); rintro e w7 ⟨rb, rfl, hrb, h7, hb7⟩; have H7 := Lib.hid h7; have O6 := Lib.hid (ownsRow_below H6.out hb7); have G7 := Lib.hid (thn G6.out hb7); have HRB := Lib.hid (Nat.le_trans G6.out.size hrb); have HLT := Lib.hid (fun k => H6.out.lt k); clear h7 hb7)
      | (go_at_call 16; (with_reducible refine (rnumF_at H7.out HB0.out _ (n - 1) (by omega)).mono ?_); rintro e w8 ⟨rfl, h8, h9⟩; rw [HR1.out] at h8 ⊢; dsimp only at h8 ⊢; clear H7; have H8 := Lib.hid h8; have O8 := Lib.hid (O6.out.kept h9 (own_ne HLT.out hrb)); have G8 := Lib.hid (thnG G7.out h9 HRB.out); clear h8 h9)
      | (go_at_call 24; (with_reducible refine (err_any H8.out).mono ?_); rintro e wy ⟨rfl, rfl⟩)
      | (go_at_call 16; (with_reducible refine (rnumF H8.out HB0.out n).mono ?_); rintro e w9 ⟨rfl, h8, h9⟩; rw [HR2.out] at h8 ⊢; dsimp only at h8 ⊢; clear H8; have H9 := Lib.hid h8; have O9 := Lib.hid (O8.out.kept h9 (own_ne HLT.out hrb)); have G9 := Lib.hid (thnG G8.out h9 HRB.out); clear h8 h9)
      | (go_at_call 23; (with_reducible refine (left_any H9.out).mono ?_); clear H9; rintro e wy ⟨rfl, rfl⟩)
      | (go_at_call 15; (refine (new_any (Holds.of_own O9.out) (by have := HL0.out; omega)).mono ?_); clear O9; rintro e wb ⟨rc, rfl, hrc, h7, hb7⟩; have HBB := Lib.hid h7; have GB := Lib.hid (thn G9.out hb7); have HRC := Lib.hid (Nat.le_trans G9.out.size hrc); clear h7 hb7)
      | (go_at_call 16; (with_reducible refine (rnumF HBB.out HB0.out n).mono ?_); rintro e wc ⟨rfl, h8, h9⟩; rw [HR3.out] at h8 ⊢; dsimp only at h8 ⊢; have HC := Lib.hid h8; have GC := Lib.hid (thnG GB.out h9 HRC.out); clear h8 h9)
      | (go_at_call 20; (with_reducible refine (rtext_any HC.out HB2.out (by have := HL.out; omega) _ (by omega) (by omega)).mono ?_); rintro e wd ⟨vx, rfl, hx, h8, h9⟩; rw [HR4.out] at hx h8; dsimp only at hx h8; have HD := Lib.hid h8; obtain ⟨AX, cX, rfl, _, _, _⟩ := Holds.of_own hx; have GD := Lib.hid (thnG GC.out h9 HRC.out); clear hx h8 h9)
      | (go_at_call 24; (with_reducible refine (err_any HD.out).mono ?_); rintro e wy ⟨rfl, rfl⟩)
      | (go_at_call 23; (with_reducible refine (left_any HD.out).mono ?_); clear HD; rintro e wy ⟨rfl, rfl⟩)
      | (go_at_call 13; (with_reducible refine (text_own ((HH.out.below (HA.out.trans (GD.out.mono HA.out.size))).mono (Nat.le_trans HA.out.size GD.out.size)) (by omega)).mono ?_); rintro e we ⟨v5, rfl, h5, hb5⟩; obtain ⟨AE, cE, rfl, _, _, _⟩ := Holds.of_own h5; have GE := Lib.hid (thn GD.out hb5); clear h5 hb5))
    go_ret
    exact ⟨by simp, HA.out.trans (GE.out.mono HA.out.size)⟩

set_option maxRecDepth 100000 in
theorem lifted (os : Os) (started : os.Started) (H : Type) (enc : TypeId × Value → H) :
    ReturnsInHanded {} Try.checked os 6 .any (Rows.codecLimitsSpec.pre6 enc Try.prog Try.f6 Rows.codecLimitsRow.domain false) (Rows.codecLimitsSpec.post enc Try.prog Try.f6 false true false false) := by
  refine returnsInHanded_of_change (C := Try.checked) own started (by kernel_rfl) Try.func6
    (ChangeSpec.witness6 (enc := enc) (C := Try.checked) false ⟨#[], #[.int .u64 0, .slice none 0 0], []⟩ 8 (by kernel_rfl) (by kernel_rfl) (by kernel_rfl) (by kernel_rfl)) ?_
  intro W base args ds gs before hval0 hW hcnd _
  have hval : ∀ (j : Nat) t v, Try.f6.params[j]? = some t → args[j]? = some v → Value.okWide Try.prog W .any base t v := hval0
  have hW' := hW
  obtain ⟨p, q, hA0, hV, rfl, hfz, hnd⟩ := hW
  have hA : DataW.TrodAll enc Try.prog W 0 (fun _ => true) true Try.f6.params.toList args.toList ds p := hA0
  rw [Try.params6] at hA hval
  obtain ⟨v0, vs0, d0, ds0, p0, q0, hargs, rfl, rfl, h0, r0⟩ := trodAll_cons hA
  obtain ⟨v1, vs1, d1, ds1, p1, q1, rfl, rfl, rfl, h1, r1⟩ := trodAll_cons r0
  obtain ⟨rfl, rfl, rfl⟩ := trodAll_nil r1
  obtain rfl : args = #[v0, v1] := by cases args; simp_all
  obtain ⟨rfl, rfl⟩ := trodVars_none hV
  obtain ⟨a0, rfl, rfl, rfl, w0⟩ := open_int Try.underlying22 (hval 0 22 v0 rfl rfl) h0
  obtain ⟨a1, len1, cap1, rfl⟩ := okWide_slice Try.underlying23 (hval 1 23 v1 rfl rfl)
  have k1 := h1
  have lt1 : ∀ x ∈ p1, x.block < W.heap.size := by obtain ⟨m, hm⟩ := k1; exact DataW.trod_lt m _ _ _ hm
  obtain ⟨z1, w1⟩ : ∃ zs, IsRow .u8 W a1 len1 cap1 zs := by
    obtain ⟨fuel, hf⟩ := h1
    rcases open_ints Try.underlying23 Try.underlying5 (by kernel_rfl) hf with ⟨hcs, _⟩ | ⟨x, l, c, zs, hcs, _, hl, hm, hz, _, hcell, hwz⟩
    · simp [Value.cells] at hcs
      obtain ⟨rfl, rfl, rfl⟩ := hcs
      exact ⟨[], .inl ⟨rfl, rfl, rfl, rfl⟩⟩
    · simp [Value.cells] at hcs
      obtain ⟨rfl, rfl, rfl⟩ := hcs
      exact ⟨zs, .inr ⟨_, rfl, hl, hm, by simpa using hz, hcell, hwz⟩⟩
  clear hA0 hval0
  refine (walk a0 a1 len1 cap1 z1 W w0 w1).mono fun e W' ⟨he, bel⟩ => ?_
  subst he
  exact ⟨_, rfl, _, _, _, [], _, [], hW', trodAll_mk1 (shut_bool Try.underlying4 _), (trodAll_cons_mk (shut_int Try.underlying22 w0) (trodAll_cons_mk (Below.trod laidOut (by kernel_rfl) (of_decide_eq_true (by kernel_rfl)) k1 bel lt1) trodAll_mk0)), rfl, bel.frame _, fun h => by cases h⟩

theorem over : Rows.codecLimitsRow.holds Try.pinned (OpenSpec.ofChange Rows.codecLimitsSpec) :=
  OpenClaim.holds_of_wide 6 Try.f6 rfl rfl rfl rfl rfl rfl rfl ⟨rfl, rfl, rfl, rfl, rfl⟩ rfl rfl rfl rfl rfl (by kernel_rfl) Try.func6 (by kernel_rfl)
    (of_decide_eq_true (by kernel_rfl)) (by unfold Func.isWrapper; first | (rw [if_pos (by decide +kernel)]; kernel_rfl) | (rw [if_neg (by decide +kernel)]; exact ⟨rfl, rfl⟩))
    (fun os started H enc _ => lifted os started H enc)

/-- The statement. -/
theorem proved : Rows.CodecLimitsSaid := over
#print axioms proved
end Go.Proofs.Ytemplngmkpldeaa.codecLimits
