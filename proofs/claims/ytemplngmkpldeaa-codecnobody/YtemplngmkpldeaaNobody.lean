/-
  'skylight/skylightlaw02.CodecNobody' returns true for every input, and the input reads afterwards as it read before. Conditions: none.
-/
import Derived.Test.YtemplngmkpldeaaRows
import Derived.WalkKit
import Derived.ProofKit
import Derived.OpenShut
import Derived.ShutString
import Derived.ChangeOld
import Derived.Below
import Derived.Test.YtemplngmkpldeaaOpen
import Derived.Test.YtemplngmkpldeaaCAwake
namespace Go.Proofs.Ytemplngmkpldeaa.codecNobody
open Go.Proofs Go.Proofs.Vm Go.Proofs.Rf
open Go.ChangeShapes Go.WideShapes Go.ChangeAt Go.RowKit
open Go.ChangeMaps (open_string shut_string)
set_option linter.unusedVariables false

theorem own : ownKnob Try.prog.godebug = none := by kernel_rfl
theorem laidOut : laidOutB Try.prog = true := by kernel_rfl

/-- A slice of integers that came in: nil, or a row of cells of its capacity, each fitting its kind. -/
def IsRow (k : IntKind) (w : World) (a : Option Addr) (len cap : Nat) (zs : List Int) : Prop :=
  (a = none ∧ len = 0 ∧ cap = 0 ∧ zs = []) ∨
  ∃ x, a = some x ∧ len ≤ cap ∧ cap ≤ maxLen ∧ zs.length = cap ∧ (∀ i, i < zs.length → w.cell? (x.add i) = some (.int k (zs.getD i 0))) ∧ ∀ n ∈ zs, (Lit.int k n).wf = true

theorem fit2_of {c : List Value} (h : Op.Fits [.u8, .u8] c) : ∃ x0 x1 : Int, c = [.int .u8 x0, .int .u8 x1] ∧ (Lit.int .u8 x0).wf = true ∧ (Lit.int .u8 x1).wf = true := by
  match c, h with
  | [_, _], ⟨⟨x0, e0, e0w⟩, ⟨x1, e1, e1w⟩, _⟩ =>
    subst e0; subst e1
    exact ⟨x0, x1, rfl, e0w, e1w⟩



set_option maxRecDepth 100000 in
set_option maxHeartbeats 4000000 in
theorem walk (a0 : Option Addr) (len0 cap0 : Nat) (z0 : List Int) (a1 : Int) (a2_0 a2_1 : Int) (w : World) (w0 : IsRow .u8 w a0 len0 cap0 z0) (w1 : (Lit.int .i64 a1).wf = true) (w2_0 : (Lit.int .u8 a2_0).wf = true) (w2_1 : (Lit.int .u8 a2_1).wf = true) :
    Calls Try.prog 7 #[.slice a0 len0 cap0, .int .i64 a1, .agg #[.int .u8 a2_0, .int .u8 a2_1]] w fun e w' => e = .returned (.bool true) ∧ Below w.heap.size w w' := by
  obtain ⟨b0, b1⟩ := bounds_i64 w1
  obtain ⟨x0, x1⟩ := bounds_u8 w2_0
  obtain ⟨y0, y1⟩ := bounds_u8 w2_1
  obtain ⟨hh, hl, hbd⟩ := holds_of_row w0
  clear w0 w1 w2_0 w2_1
  obtain ⟨bs, hbs⟩ : ∃ bs, z0.take len0 = bs := ⟨_, rfl⟩
  rw [hbs] at hh hl hbd
  subst hl
  have HH := Lib.hid hh
  have HBD := Lib.hid hbd
  clear hbs hh
  by_cases h300 : 300 < bs.length
  · clear hbd
    go_enter Try.func7, Try.ntmps7
    go_wp2_with (go_at_call 8; refine (awake_any _).mono ?_; rintro e wa ⟨rfl, hba⟩; have HA := Lib.hid (thn ((Below.refl w.heap.size w).alloc (Nat.le_refl _) _) hba); clear hba)
    go_ret
    exact ⟨rfl, HA.out⟩
  · have HR3 : Hid (rText (vtext bs) 0 (bs.length : Int) = ([], 0, bs)) := by
      have := rText_text bs [] (by omega) bs.length (by omega)
      rw [List.append_nil] at this
      exact this
    have HBT : Hid (∀ x ∈ vtext bs, 0 ≤ x ∧ x ≤ 255) := vtext_bounds hbd
    have hl3 := vtext_len bs
    have hl4 := vput_len10 bs.length (by omega)
    have HL : Hid ((vtext bs).length ≤ 310) := by show (vtext bs).length ≤ 310; omega
    have hX : (1 + a2_0 % 15 == 0) = false := by rw [beq_eq_false_iff_ne]; omega
    have HFX : Hid (rFail (rFail 0 (1 + a2_0 % 15)) (1 + a2_1 % 15) = 1 + a2_0 % 15) := by
      show rFail _ _ = _
      have h1 : ¬ (1 + a2_0 % 15 = 0) := by omega
      simp only [rFail, if_true, if_neg h1]
    clear hl3 hl4 hbd hX
    go_enter Try.func7, Try.ntmps7
    go_wp2_with (first
      | (go_at_call 8; refine (awake_any _).mono ?_; rintro e wa ⟨rfl, hba⟩; have HA := Lib.hid (thn ((Below.refl w.heap.size w).alloc (Nat.le_refl _) _) hba); obtain ⟨hca, _⟩ := bcell hba; have hx0 : wa.cell? ⟨w.heap.size, 0, none⟩ = some (.int .u8 a2_0) := (by rw [hca _ _ (by simp)]; simp); have hy0 : wa.cell? ⟨w.heap.size, 1, none⟩ = some (.int .u8 a2_1) := (by rw [hca _ _ (by simp)]; simp); have hwa : w.heap.size < wa.heap.size := (by have := hba.size; simp at this; omega); clear hba hca)
      | (go_at_call 22; (with_reducible refine (fail_nil _ _).mono ?_); rintro e w1 ⟨⟨v1, rfl⟩, rfl⟩)
      | (go_at_call 15; (refine (new_any ((HH.out.below HA.out).mono HA.out.size) (by omega)).mono ?_); rintro e w1 ⟨rb, rfl, hrb, h1, hb1⟩; have R1 := Lib.hid h1; have G1 := Lib.hid hb1; have hz1 : w.heap.size < rb := (by omega); have hx1 := (hb1.cell (p := ⟨w.heap.size, 0, none⟩) hwa).trans hx0; have hy1 := (hb1.cell (p := ⟨w.heap.size, 1, none⟩) hwa).trans hy0; clear h1 hb1 hx0 hy0)
      | (go_at_call 22; (with_reducible refine (fail_any R1.out 0).mono ?_); rintro e w2 ⟨⟨v2, rfl⟩, h1, hb1⟩; rw [show rFail 0 0 = 0 from rfl] at h1; have R2 := Lib.hid h1; have G2 := Lib.hid hb1; have hx2 := (hb1.cell hx1 (by simp; omega)); have hy2 := (hb1.cell hy1 (by simp; omega)); clear h1 hb1 hx1 hy1 R1)
      | (go_at_call 24; (with_reducible refine (err_any R2.out).mono ?_); rintro e w3 ⟨rfl, rfl⟩)
      | (go_at_call 22; (with_reducible refine (fail_any R2.out _).mono ?_); rintro e w3 ⟨⟨v3, rfl⟩, h1, hb1⟩; have R3 := Lib.hid h1; have G3 := Lib.hid hb1; have hx3 := (hb1.cell hx2 (by simp; omega)); have hy3 := (hb1.cell hy2 (by simp; omega)); clear h1 hb1 hx2 hy2 R2)
      | (go_at_call 22; (with_reducible refine (fail_any R3.out _).mono ?_); rintro e w4 ⟨⟨v4, rfl⟩, h1, hb1⟩; rw [HFX.out] at h1; have R4 := Lib.hid h1; have G4 := Lib.hid hb1; have hx4 := (hb1.cell hx3 (by simp; omega)); have hy4 := (hb1.cell hy3 (by simp; omega)); have GA := Lib.hid (thnG (thnG (thnG (thn HA.out G1.out) G2.out (by omega)) G3.out (by omega)) hb1 (by omega)); clear h1 hb1 hx3 hy3 R3)
      | (go_at_call 13; (with_reducible refine (text_own (((HH.out.below GA.out).alloc GA.out.size _).mono (by have := GA.out.size; simp; omega)) (by omega)).mono ?_); rintro e w5 ⟨v5, rfl, h5, hb5⟩; have O0 := Lib.hid (ownsRow_below (World.ownsRow_made w4 #[] 0 (Nat.le_refl w4.heap.size) (by decide) (show (#[] : Array Value).size = 0 * 1 from rfl) (e := 5)) hb5); have H5 := Lib.hid h5; have G5 := Lib.hid (thn ((Below.refl w4.heap.size w4).alloc (Nat.le_refl _) _) hb5); clear h5 hb5)
      | (at_builtin; refine wpList_app _ rfl (.tmp 43) (.tmp 45) rfl w4.heap.size _ _ [] (vtext bs) w5.heap.size rfl O0.out rfl (Holds.of_own H5.out) (by have := HL.out; simp; omega) G5.out.size ?_; intro v6 w6 hown6 hg6; rw [List.nil_append] at hown6; have H6 := Lib.hid hown6; have G6 := Lib.hid (G5.out.grown hg6 G5.out.size (fun j ej => by cases ej; exact Nat.le_refl _)); clear hown6 hg6)
      | (go_at_call 15; (with_reducible refine (new_any (Holds.of_own H6.out) (by have := HL.out; omega)).mono ?_); rintro e w7 ⟨rs, rfl, hrs, h7, hb7⟩; have R7 := Lib.hid h7; have O7 := Lib.hid (ownsRow_below H6.out hb7); have O7L := Lib.hid (fun k => H6.out.lt k); have G7 := Lib.hid (thn G6.out hb7); clear h7 hb7)
      | (go_at_call 20; (with_reducible refine (rtext_any R7.out HBT.out (by have := HL.out; omega) bs.length (by omega) (by omega)).mono ?_); rintro e w8 ⟨vx, rfl, hx, h8, h9⟩; rw [HR3.out] at hx; dsimp only at hx; have HX := Lib.hid hx; obtain ⟨A8, c8, rfl, _, _, _⟩ := Holds.of_own hx; have G8 := Lib.hid h9; have O8 := Lib.hid (O7.out.kept h9 (own_ne O7L.out hrs)); clear hx h8 h9))
    have hw4 : w4.heap.size ≤ rs := Nat.le_trans G6.out.size hrs
    have HW4 := Lib.hid hw4
    have hw7 := R7.out.lt
    have HW7 := Lib.hid hw7
    clear hw4 hw7
    go_loopw [14] (fun i wr => ∃ (k : Nat) (ys : List Int), k ≤ bs.length ∧ i = .int .i64 k ∧ Hid (ys.length = bs.length) ∧ Hid (wr.ownsRow w7.heap.size 5 1 (.slice A8 bs.length c8) bs.length (ys.map (Value.int .u8))) ∧ Hid (Below w7.heap.size w8 wr)) (fun i _ => bs.length - (intOf i).toNat)
    case atStart => exact ⟨0, bs, by omega, rfl, rfl, HX.out, Below.refl _ _⟩
    case round =>
      obtain ⟨k, ys, hk, rfl, HYL, HOW, HBE⟩ := hrel
      by_cases hlt : k < bs.length
      · obtain ⟨g, rfl, hg⟩ := own_form HOW.out (by omega)
        have hc := HOW.out.cellAt k (by omega)
        have hf := HOW.out.frozenAt k
        rw [List.getElem?_map, List.getElem?_eq_getElem (by rw [HYL.out]; exact hlt)] at hc
        obtain ⟨d, hd⟩ : ∃ d, ys[k]'(by rw [HYL.out]; exact hlt) = d := ⟨_, rfl⟩
        rw [hd] at hc
        simp only [Option.map_some] at hc
        clear hd
        go_wp2
        go_roundw
        case rel =>
          have hs := HOW.out.stored k (.int .u8 (IntKind.u8.wrap (d + 1)))
          rw [← List.map_set] at hs
          exact ⟨k + 1, ys.set k (IntKind.u8.wrap (d + 1)), by omega, by go_num, (by rw [List.length_set]; exact HYL.out), hs.1, HBE.out.setCell hg _⟩
        case measure => simp [intOf]; omega
      · have hkl : k = bs.length := by omega
        subst hkl
        have hw4l : w.heap.size < w4.heap.size := Nat.lt_trans hz1 R4.out.lt
        have hw47 : w4.heap.size ≤ w7.heap.size := G7.out.size
        have hrsw : w4.heap.size ≤ rs := HW4.out
        have OT := Lib.hid (ownsRow_belowB O8.out (fun k hk => Nat.lt_of_lt_of_le (O7L.out k hk).2 (Nat.le_trans hrs (Nat.le_of_lt HW7.out))) HBE.out)
        have hR7 := R4.out.below G7.out R4.out.lt
        have hR8 := hR7.grown G8.out (Nat.lt_of_lt_of_le R4.out.lt HW4.out)
        have HR8 := Lib.hid (hR8.below HBE.out (Nat.lt_of_lt_of_le R4.out.lt hw47))
        have GW := Lib.hid ((thnG (thn GA.out G7.out) G8.out (by omega)).trans (HBE.out.mono (by omega)))
        have HX0 := Lib.hid ((HBE.out.cell (p := ⟨w.heap.size, 0, none⟩) (by show w.heap.size < _; omega)).trans (G8.out.cell ((G7.out.cell (p := ⟨w.heap.size, 0, none⟩) hw4l).trans hx4) (by simp; omega)))
        have HY0 := Lib.hid ((HBE.out.cell (p := ⟨w.heap.size, 1, none⟩) (by show w.heap.size < _; omega)).trans (G8.out.cell ((G7.out.cell (p := ⟨w.heap.size, 1, none⟩) hw4l).trans hy4) (by simp; omega)))
        have HBW := Lib.hid (HH.out.below GW.out)
        have HLE := Lib.hid GW.out.size
        have HLT : Hid (w.heap.size < wr.heap.size) := Nat.lt_of_lt_of_le (Nat.lt_trans hz1 hR8.lt) HBE.out.size
        clear hR7 hR8 hw4l hw47 hrsw
        go_wp2
        refine region_facts (b := ?fbA) (fr := ?frA) 1 5 [68, 69, 70, 71, 72] (fun i v W => match i with
            | 1 => v = .string (strOf (vtext bs))
            | 2 => v = .slice a0 bs.length cap0
            | 3 => Holds W W.heap.size v (vtext bs)
            | 4 => v = .string (strOf (vtext bs))
            | 5 => v = .bool true
            | _ => True) rfl ?hBA (by kernel_rfl) (by kernel_rfl) (by kernel_rfl) (by kernel_rfl) ?hQA (by kernel_rfl) ?hpreA ?hfrA ?hFA ?hopA ?htailA
        case hpreA =>
          simp only [List.take]
          repeat (go_big_quiet_step (fail))
          refine wpQuiet_nil ?_
          rfl
        case hBA => kernel_rfl
        case hQA => intro c a d v w h; cases d <;> exact h
        case hfrA =>
          intro us
          simp only [putL]
          go_simp
          rfl
        case hFA =>
          intro i v W W' hG h
          match i with
          | 1 => exact h
          | 2 => exact h
          | 3 => exact (Holds.mono (Holds.below h hG) hG.size)
          | 4 => exact h
          | 5 => exact h
          | 0 => trivial
          | n + 6 => trivial
        case hopA =>
          intro i hsi hi us W2 hG hd
          obtain ⟨d, rfl⟩ : ∃ d, i = 1 + d := ⟨i - 1, by omega⟩
          have hdn : d < 5 := by omega
          match d, hdn with
          | 0, _ =>
            clear hd
            have r1 := run_str (Holds.below (Holds.of_own OT.out) hG) HBT.out
            exact hop_value rfl rfl rfl (v := .string (strOf (vtext bs))) (W' := W2) (by go_simp) (Grows.refl _) rfl
          | 1, _ =>
            clear hd
            exact hop_value rfl rfl rfl (v := .slice a0 bs.length cap0) (W' := W2) (by go_simp) (Grows.refl _) rfl
          | 2, _ =>
            have h2 : (us 2) = .slice a0 bs.length cap0 := hd 2 (by omega) (by omega) (by kernel_rfl)
            clear hd
            refine hop_call rfl rfl rfl (f := 13) (args := #[.slice a0 bs.length cap0]) (by go_simp) ?_
            exact (text_own ((HBW.out.below (Below.mono hG HLE.out)).mono (Nat.le_trans HLE.out hG.size)) (by omega)).mono fun _ _ ⟨v, he, hv, hb⟩ => ⟨v, he, hb, Holds.of_own hv⟩
          | 3, _ =>
            have h3 : Holds W2 W2.heap.size (us 3) (vtext bs) := hd 3 (by omega) (by omega) (by kernel_rfl)
            have r3 := run_str h3 (HBT.out)
            clear hd
            exact hop_value rfl rfl rfl (v := .string (strOf (vtext bs))) (W' := W2) (by go_simp) (Grows.refl _) rfl
          | 4, _ =>
            have h1 : (us 1) = .string (strOf (vtext bs)) := hd 1 (by omega) (by omega) (by kernel_rfl)
            have h4 : (us 4) = .string (strOf (vtext bs)) := hd 4 (by omega) (by omega) (by kernel_rfl)
            clear hd
            exact hop_value rfl rfl rfl (v := .bool true) (W' := W2) (by go_simp) (Grows.refl _) rfl
          | d + 5, h => exact absurd h (by omega)
        case htailA =>
          intro us W2 hG hf
          have h5 : (us 5) = .bool true := hf 5 (by omega) (by omega)
          clear hf
          rw [h5]
          simp only [List.drop]
          repeat (go_big_quiet_step (fail))
          refine wpQuiet_nil ?_
          rintro w' ⟨nq, rfl⟩
          have hGd := hG.drewN nq
          generalize W2.drewN nq = W3 at hGd
          have HGD := Lib.hid hGd
          have hcx := (Grows.cell hGd (b := w.heap.size) (o := 0) HLT.out).trans HX0.out
          have hcy := (Grows.cell hGd (b := w.heap.size) (o := 1) HLT.out).trans HY0.out
          have HRR := Lib.hid (fun k => Rd.below HR8.out (Grows.drewN hGd k) HR8.out.lt)
          clear hG hGd
          go_wp2
          go_quiet ((first
            | (go_at_call 24; exact Calls.quiet_of_same ((err_any (HRR.out _)).mono fun _ _ ⟨h1, h2⟩ => ⟨h1, h2.symm⟩))
            | (go_at_call 16; exact Calls.quiet_of_same ((rnum_nil _ _).mono fun _ _ ⟨h1, h2⟩ => ⟨h1, h2.symm⟩))
            | (go_at_call 18; exact Calls.quiet_of_same ((rfixed_nil _).mono fun _ _ ⟨h1, h2⟩ => ⟨h1, h2.symm⟩))
            | (go_at_call 20; exact Calls.quiet_of_same ((rtext_nil _ _).mono fun _ _ ⟨h1, h2⟩ => ⟨h1, h2.symm⟩))
            | (go_at_call 23; exact Calls.quiet_of_same ((left_nil _).mono fun _ _ ⟨h1, h2⟩ => ⟨h1, h2.symm⟩))
            | (go_at_call 24; exact Calls.quiet_of_same ((err_nil _).mono fun _ _ ⟨h1, h2⟩ => ⟨h1, h2.symm⟩))
            | (go_at_call 25; exact Calls.quiet_of_same ((end_nil' _).mono fun _ _ ⟨h1, h2⟩ => ⟨h1, h2.symm⟩))))
          go_wp2
          go_ret
          exact ⟨rfl, GW.out.trans (Below.mono (Grows.drewN HGD.out _) HLE.out)⟩

set_option maxRecDepth 100000 in
theorem lifted (os : Os) (started : os.Started) (H : Type) (enc : TypeId × Value → H) :
    ReturnsInHanded {} Try.checked os 7 .any (Rows.codecNobodySpec.pre6 enc Try.prog Try.f7 Rows.codecNobodyRow.domain false) (Rows.codecNobodySpec.post enc Try.prog Try.f7 false true false false) := by
  refine returnsInHanded_of_change (C := Try.checked) own started (by kernel_rfl) Try.func7
    (ChangeSpec.witness6 (enc := enc) (C := Try.checked) false ⟨#[], #[.slice none 0 0, .int .i64 0, .agg #[.int .u8 0, .int .u8 0]], []⟩ 8 (by kernel_rfl) (by kernel_rfl) (by kernel_rfl) (by kernel_rfl)) ?_
  intro W base args ds gs before hval0 hW hcnd _
  have hval : ∀ (j : Nat) t v, Try.f7.params[j]? = some t → args[j]? = some v → Value.okWide Try.prog W .any base t v := hval0
  have hW' := hW
  obtain ⟨p, q, hA0, hV, rfl, hfz, hnd⟩ := hW
  have hA : DataW.TrodAll enc Try.prog W 0 (fun _ => true) true Try.f7.params.toList args.toList ds p := hA0
  rw [Try.params7] at hA hval
  obtain ⟨v0, vs0, d0, ds0, p0, q0, hargs, rfl, rfl, h0, r0⟩ := trodAll_cons hA
  obtain ⟨v1, vs1, d1, ds1, p1, q1, rfl, rfl, rfl, h1, r1⟩ := trodAll_cons r0
  obtain ⟨v2, vs2, d2, ds2, p2, q2, rfl, rfl, rfl, h2, r2⟩ := trodAll_cons r1
  obtain ⟨rfl, rfl, rfl⟩ := trodAll_nil r2
  obtain rfl : args = #[v0, v1, v2] := by cases args; simp_all
  obtain ⟨rfl, rfl⟩ := trodVars_none hV
  obtain ⟨a0, len0, cap0, rfl⟩ := okWide_slice Try.underlying23 (hval 0 23 v0 rfl rfl)
  have k0 := h0
  have lt0 : ∀ x ∈ p0, x.block < W.heap.size := by obtain ⟨m, hm⟩ := k0; exact DataW.trod_lt m _ _ _ hm
  obtain ⟨z0, w0⟩ : ∃ zs, IsRow .u8 W a0 len0 cap0 zs := by
    obtain ⟨fuel, hf⟩ := h0
    rcases open_ints Try.underlying23 Try.underlying5 (by kernel_rfl) hf with ⟨hcs, _⟩ | ⟨x, l, c, zs, hcs, _, hl, hm, hz, _, hcell, hwz⟩
    · simp [Value.cells] at hcs
      obtain ⟨rfl, rfl, rfl⟩ := hcs
      exact ⟨[], .inl ⟨rfl, rfl, rfl, rfl⟩⟩
    · simp [Value.cells] at hcs
      obtain ⟨rfl, rfl, rfl⟩ := hcs
      exact ⟨zs, .inr ⟨_, rfl, hl, hm, by simpa using hz, hcell, hwz⟩⟩
  obtain ⟨a1, rfl, rfl, rfl, w1⟩ := open_int Try.underlying3 (hval 1 3 v1 rfl rfl) h1
  have k2 := h2
  have lt2 : ∀ x ∈ p2, x.block < W.heap.size := by obtain ⟨m, hm⟩ := k2; exact DataW.trod_lt m _ _ _ hm
  obtain ⟨c2, rfl, fit2⟩ := Op.open_flat (f := 9) (ks := [.u8, .u8]) (by kernel_rfl) (by kernel_rfl) (hval 2 50 v2 rfl rfl) h2
  obtain ⟨a2_0, a2_1, rfl, w2_0, w2_1⟩ := fit2_of fit2
  clear hA0 hval0
  refine (walk a0 len0 cap0 z0 a1 a2_0 a2_1 W w0 w1 w2_0 w2_1).mono fun e W' ⟨he, bel⟩ => ?_
  subst he
  exact ⟨_, rfl, _, _, _, [], _, [], hW', trodAll_mk1 (shut_bool Try.underlying4 _), (trodAll_cons_mk (Below.trod laidOut (by kernel_rfl) (of_decide_eq_true (by kernel_rfl)) k0 bel lt0) (trodAll_cons_mk (shut_int Try.underlying3 w1) (trodAll_cons_mk (Below.trod laidOut (by kernel_rfl) (of_decide_eq_true (by kernel_rfl)) k2 bel lt2) trodAll_mk0))), rfl, bel.frame _, fun h => by cases h⟩

theorem over : Rows.codecNobodyRow.holds Try.pinned (OpenSpec.ofChange Rows.codecNobodySpec) :=
  OpenClaim.holds_of_wide 7 Try.f7 rfl rfl rfl rfl rfl rfl rfl ⟨rfl, rfl, rfl, rfl, rfl⟩ rfl rfl rfl rfl rfl (by kernel_rfl) Try.func7 (by kernel_rfl)
    (of_decide_eq_true (by kernel_rfl)) (by unfold Func.isWrapper; first | (rw [if_pos (by decide +kernel)]; kernel_rfl) | (rw [if_neg (by decide +kernel)]; exact ⟨rfl, rfl⟩))
    (fun os started H enc _ => lifted os started H enc)

/-- The statement. -/
theorem proved : Rows.CodecNobodySaid := over
#print axioms proved
end Go.Proofs.Ytemplngmkpldeaa.codecNobody
