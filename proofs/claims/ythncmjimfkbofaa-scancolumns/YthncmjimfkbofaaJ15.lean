/- The contracts of scan.weights, at its two types, and as it is called. · The contracts of scan.within, Sum and In. -/
import Derived.WalkSpells
import Derived.Test.YthncmjimfkbofaaJ14
section
/- The contracts of scan.weights, at its two types, and as it is called. -/
namespace Go.Proofs.Ythncmjimfkbofaa
set_option linter.unusedVariables false
open Go.RowKit Go.Shelf Go.Proofs.Rw Go.Proofs.Lh Go.Proofs.Bu Go.Proofs.Sc Go.Proofs.Wm Go.Proofs.Rf Go.Maps

theorem u64_add (a b : Nat) : IntKind.u64.wrap ((a : Int) + (b : Int)) = (((a + b) % M64 : Nat) : Int) := by
  simp [IntKind.wrap, IntKind.signed, IntKind.bits, M64]
theorem zeroU (w : World) : (zeroValue 22).run Try.prog w = .ok (.int .u64 0) w := by kernel_rfl
theorem col_in (a b x : Nat) (k : Int) (k1 : k ≤ 9223372036854775807) : 0 ≤ col a b x k ∧ col a b x k ≤ 9223372036854775807 ∧ (1 ≤ k → col a b x k < k) := by
  unfold col
  split
  · omega
  · split
    · omega
    · have hk : 0 < k.toNat := by omega
      have := Nat.mod_lt (addM (mulM a x) b) hk
      omega
theorem grownBy_of_grows {w w' : World} (h : Grows w w') : w.grownBy w' none := ⟨h.os, h.tape, h.output, h.size, fun k hk _ => h.block k hk⟩

set_option maxRecDepth 100000 in
set_option maxHeartbeats 4000000 in
theorem weA_any (l : List Ev) (hl : l.length ≤ 1000000) (hv : ∀ e ∈ l, e.1 < 18446744073709551616 ∧ e.2.1 < 18446744073709551616 ∧ e.2.2 < 18446744073709551616) (w : World) (A : Option Addr) (c : Nat) (h : Lies evL w w.heap.size (.slice A l.length c) l) (t s b1 b2 : Nat) (ht : t < 18446744073709551616) (c1 : w.cell? ⟨b1, 0, none⟩ = some (.int .u64 (t : Int))) (c2 : w.cell? ⟨b2, 0, none⟩ = some (.int .u64 (s : Int))) :
    Calls Try.prog 39 #[.slice A l.length c, .func (.func 63) #[] #[.pointer (some ⟨b1, 0, none⟩), .pointer (some ⟨b2, 0, none⟩)], .func (.func 41) #[] #[]] w fun e w' => ∃ D, e = .returned (.map (some w.heap.size)) ∧ w'.ownsMap Try.prog 22 (plainElem Try.prog 22) w.heap.size l.length D ∧ SumsM .u64 (inB t s) (fun e => (e.2.1 : Int)) l D ∧ Below w.heap.size w w' := by
  have hmm := @run_makeMap Try.prog
  obtain ⟨N, hN⟩ : ∃ N, l.length = N := ⟨_, rfl⟩
  have HL := Lib.hid h
  rw [hN] at HL hl ⊢
  have HN := Lib.hid hN
  have HV := Lib.hid hv
  obtain ⟨pp, hpp⟩ : ∃ pp, (inB t s) = pp := ⟨_, rfl⟩
  obtain ⟨cc, hcc⟩ : ∃ cc : Ev → Int, (fun e => (e.2.1 : Int)) = cc := ⟨_, rfl⟩
  have ask : ∀ (e : Ev) (W : World), Below w.heap.size w W → Calls Try.prog 63 #[evS e, .pointer (some ⟨b1, 0, none⟩), .pointer (some ⟨b2, 0, none⟩)] W fun x w' => x = .returned (.bool (pp e)) ∧ Below W.heap.size W w' := by
    intro e W hW
    rw [← hpp]
    exact askA_any e t s b1 b2 W ht ((hW.cell (p := ⟨b1, 0, none⟩) (lt_of_cell c1)).trans c1) ((hW.cell (p := ⟨b2, 0, none⟩) (lt_of_cell c2)).trans c2)
  have off : ∀ (e : Ev) (W : World), e ∈ l → Below w.heap.size w W → Calls Try.prog 41 #[evS e] W fun x w' => x = .returned (.int .u64 (cc e)) ∧ Below W.heap.size W w' := by
    intro e W he hW
    rw [← hcc]
    exact keyOf_any e W
  have kwf : ∀ e ∈ l, (Lit.int .u64 (cc e)).wf = true := by
    intro e he
    rw [← hcc]
    have := (hv e he).2.1; exact WalkArith.wf_u64 (n := (e.2.1 : Int)) (by omega)
  rw [hpp, hcc]
  have ASK := Lib.hid ask
  have OFF := Lib.hid off
  have KWF := Lib.hid kwf
  obtain ⟨B, hB⟩ : ∃ B, w.heap.size = B := ⟨_, rfl⟩
  clear h hN hv ask off kwf hpp hcc
  have M0 := Lib.hid (World.ownsMap_made (H := Unit) w Try.prog 22 (plainElem Try.prog 22))
  have B0 := Lib.hid ((Below.refl w.heap.size w).alloc (Nat.le_refl _) (.map #[] 0))
  rw [hB] at M0 B0 ASK OFF HL ⊢
  go_enter Try.func39, Try.ntmps39
  go_wp2
  try rw [hB]
  go_loopw [13] (fun s13 wr => ∃ j : Nat, s13 = .int .i64 (j : Int) ∧ j ≤ N ∧ (∃ D, Hid (wr.ownsMap Try.prog 22 (plainElem (H := Unit) Try.prog 22) B j D) ∧ SumsM .u64 pp cc (l.take j) D) ∧ Hid (Below B w wr)) (fun s13 _ => N - (intOf s13).toNat)
  case atStart => exact ⟨0, rfl, Nat.zero_le _, ⟨_, Lib.hid M0.out, SumsM.nil _ _ _⟩, Lib.hid B0.out⟩
  case round =>
    obtain ⟨j, rfl, hj, ⟨D, HM, HS⟩, HB⟩ := hrel
    by_cases hlt : j < N
    · have hjl : j < l.length := by rw [HN.out]; exact hlt
      obtain ⟨b, off, rfl, hb, -, hc⟩ := ev_at (HL.out.below HB.out) (by omega)
      obtain ⟨q0, q1, q2⟩ := hc j hjl
      have hbb : b < wr.heap.size := by have := HB.out.size; rw [← hB] at hb; omega
      have hmem := List.getElem_mem hjl
      have hstep : l.take (j + 1) = l.take j ++ [l[j]] := List.take_succ_eq_append_getElem hjl
      obtain ⟨x, hx⟩ : ∃ x, l[j] = x := ⟨_, rfl⟩
      rw [hx] at q0 q1 q2 hmem hstep
      have hxv := HV.out x hmem
      have hkw := KWF.out x hmem
      have hof := fun W hW => OFF.out x W hmem hW
      have hask := fun W hW => ASK.out x W hW
      clear hc hx hjl
      have HX := Lib.hid hmem
      clear hmem
      obtain ⟨W1, hW1⟩ : ∃ W, wr.alloc (.cells #[.int .u64 (x.1 : Int), .int .u64 (x.2.1 : Int), .int .u64 (x.2.2 : Int)] 41) = W := ⟨_, rfl⟩
      have p1 : W1.heap[wr.heap.size]? = some (.cells #[.int .u64 (x.1 : Int), .int .u64 (x.2.1 : Int), .int .u64 (x.2.2 : Int)] 41) := by rw [← hW1]; exact heap_alloc_new wr _
      have HB1 : Below B w W1 := by rw [← hW1]; exact HB.out.alloc (by have := HB.out.size; omega) _
      have HM1 : W1.ownsMap Try.prog 22 (plainElem Try.prog 22) B j D := by rw [← hW1]; exact HM.out.alloc _
      have hlt9 := lt_of p1
      have hBx : B < wr.heap.size := HM.out.lt
      obtain ⟨b9, hb9⟩ : ∃ b9, wr.heap.size = b9 := ⟨_, rfl⟩
      have HW1 := Lib.hid hW1
      have HP1 := Lib.hid p1
      have HS1 := Lib.hid hstep
      have HBB := Lib.hid HB1
      have HMM := Lib.hid HM1
      have HASK := Lib.hid hask
      have HOF0 := Lib.hid hof
      have HXV := Lib.hid hxv
      have HKW := Lib.hid hkw
      have HKW0 := trivial
      clear p1 hstep HB1 HM1 hask hof hxv hkw HM hlt9 hW1 hmm
      go_upto_region 5 with (fail)
      rw [HW1.out]
      obtain ⟨qb, hqb⟩ : ∃ qb, pp x = qb := ⟨_, rfl⟩
      have hask2 := HASK.out
      rw [hqb] at hask2
      clear HASK
      have HASK := Lib.hid hask2
      clear hask2
      obtain ⟨kz, hkz⟩ : ∃ kz, cc x = kz := ⟨_, rfl⟩
      have hof2 := HOF0.out
      rw [hkz] at hof2 HKW
      have HOF1 := Lib.hid hof2
      clear hof2 HOF0
      have hput := fun (hp : pp x = true) (v : Int) hv => SumsM.put (e := x) (v := v) HS HMM.out.isMap hp hv
      have hskip := fun (hp : pp x = false) => SumsM.skip (e := x) HS hp
      rw [← HS1.out] at hput hskip
      have hel := HS.el kz
      rw [hkz] at hput
      obtain ⟨cv, hcv⟩ : ∃ cv, sumP (fun x => pp x && decide (cc x = kz)) (l.take j) % M64 = cv := ⟨_, rfl⟩
      rw [hcv] at hel hput
      have hcl : cv < M64 := by rw [← hcv]; exact Nat.mod_lt _ (by decide)
      obtain ⟨sv, hsv⟩ : ∃ sv, (cv + x.2.2) % M64 = sv := ⟨_, rfl⟩
      have hsl : sv < M64 := by rw [← hsv]; exact Nat.mod_lt _ (by decide)
      rw [hsv] at hput
      have HSV : Hid (IntKind.u64.wrap ((cv : Int) + (x.2.2 : Int)) = (sv : Int)) := by
        rw [← hsv]
        exact u64_add cv x.2.2
      have HVW : Hid ((Lit.int .u64 (sv : Int)).wf = true) := WalkArith.wf_u64 (by unfold M64 at hsl; omega)
      have HEL := Lib.hid hel
      have HPUT0 := Lib.hid hput
      have HSKIP := Lib.hid hskip
      have HQB := Lib.hid hqb
      clear hput hskip hel hcv hsv hkz HS HXV HKW0
      obtain ⟨ex, ey, ez⟩ := x
      dsimp only at HP1 HASK HOF1 HSV
      rw [hb9] at HP1
      have r0 : W1.cell? ⟨b9, 0, none⟩ = some (.int .u64 (ex : Int)) := by simp [World.cell?, HP1.out]
      have r1 : W1.cell? ⟨b9, 1, none⟩ = some (.int .u64 (ey : Int)) := by simp [World.cell?, HP1.out]
      have r2 : W1.cell? ⟨b9, 2, none⟩ = some (.int .u64 (ez : Int)) := by simp [World.cell?, HP1.out]
      have hl9 : b9 < W1.heap.size := lt_of_cell r0
      clear HP1 HW1
      dsimp only
      cases qb
      · clear HPUT0
        go_wp2_with (go_at_call 63; (with_reducible refine (HASK.out W1 HBB.out).mono ?_); rintro r wx ⟨rfl, hb2⟩; have HB2 := Lib.hid (HBB.out.trans (hb2.mono (by have := HBB.out.size; omega))); have HGX := Lib.hid hb2; clear hb2)
        refine ⟨⟨j + 1, by go_num, hlt, ⟨D, Lib.hid ((HMM.out.kept (grownBy_of_grows HGX.out) (by simp)).mono (Nat.le_succ _)), HSKIP.out HQB.out⟩, HB2⟩, by simp [intOf]; omega⟩
      · go_upto_region 6 with (go_at_call 63; (with_reducible refine (HASK.out W1 HBB.out).mono ?_); rintro r wx ⟨rfl, hb2⟩; have HB2 := Lib.hid (HBB.out.trans (hb2.mono (by have := HBB.out.size; omega))); have HGX := Lib.hid hb2; clear hb2)
        have HPUT := Lib.hid (HPUT0.out HQB.out _ rfl)
        have HM := Lib.hid (HMM.out.kept (grownBy_of_grows HGX.out) (by simp))
        have hx9 : b9 < wx.heap.size := Nat.lt_of_lt_of_le hl9 HGX.out.size
        have P9 := Lib.hid (And.intro ((HGX.out.cell (p := ⟨b9, 0, none⟩) hl9).trans r0) (And.intro ((HGX.out.cell (p := ⟨b9, 1, none⟩) hl9).trans r1) (And.intro ((HGX.out.cell (p := ⟨b9, 2, none⟩) hl9).trans r2) hx9)))
        have hof2 : ∀ W2, Grows wx W2 → Calls Try.prog 41 #[evS (ex, ey, ez)] W2 fun x w' => x = .returned (.int .u64 kz) ∧ Grows W2 w' := fun W2 hG => HOF1.out W2 (HB2.out.trans (hG.mono (by have := HB2.out.size; omega)))
        have hlk : ∀ W2, Grows wx W2 → (Instr.lookup 82 (.map (some B)) (.int .u64 kz) false).run Try.prog W2 = .ok (.int .u64 (cv : Int)) W2 := by
          intro W2 hG
          obtain ⟨c2, hrun, hat, -⟩ := (HM.out.kept (grownBy_of_grows hG) (by simp)).lookup_int (int_keyed Try.underlying22) Try.underlying82 Try.underlying22 (zeroU W2) (keyOf_int_mk Try.underlying22 HKW.out)
          rw [HEL.out] at hat
          injection hat with hat
          injection hat with _ hat
          rw [hrun, hat]
        have HOF := Lib.hid hof2
        have HLK := Lib.hid hlk
        have HB := HB2
        clear hof2 hlk HPUT0 HSKIP HOF1 HEL r0 r1 r2 HMM HBB q0 q1 q2
        refine region_tail (fr := ?frweA_any) 8 [20, 21, 22, 23, 24, 25, 26, 27] (fun i v W => match i with
            | 0 => v = .map (some B)
            | 1 => v = .func (.func 41) #[] #[]
            | 2 => v = .agg #[.int .u64 (ex : Int), .int .u64 (ey : Int), .int .u64 (ez : Int)]
            | 3 => v = .int .u64 kz
            | 4 => v = .int .u64 (cv : Int)
            | 5 => v = .pointer (some ⟨b9, 2, none⟩)
            | 6 => v = .int .u64 (ez : Int)
            | 7 => v = .int .u64 (sv : Int)
            | _ => True) rfl ?hBweA_any (by kernel_rfl) (by kernel_rfl) ?hfrweA_any ?hFweA_any ?hopweA_any ?htailweA_any
        case hBweA_any => kernel_rfl
        case hfrweA_any =>
          intro us
          simp only [putL]
          go_simp
          rfl
        case hFweA_any =>
          intro i v W W' hG h
          match i with
          | 0 => exact h
          | 1 => exact h
          | 2 => exact h
          | 3 => exact h
          | 4 => exact h
          | 5 => exact h
          | 6 => exact h
          | 7 => exact h
          | n + 8 => trivial
        case hopweA_any =>
          intro i hi us W2 hG hd
          match i, hi with
          | 0, _ =>
            clear hd
            exact hop_value rfl rfl rfl (v := .map (some B)) (W' := W2) (by go_simp) (Grows.refl _) rfl
          | 1, _ =>
            clear hd
            exact hop_value rfl rfl rfl (v := .func (.func 41) #[] #[]) (W' := W2) (by go_simp) (Grows.refl _) rfl
          | 2, _ =>
            clear hd
            have c0 := (hG.cell (b := b9) (o := 0) P9.out.2.2.2).trans P9.out.1
            have c1 := (hG.cell (b := b9) (o := 1) P9.out.2.2.2).trans P9.out.2.1
            have c2 := (hG.cell (b := b9) (o := 2) P9.out.2.2.2).trans P9.out.2.2.1
            exact hop_value rfl rfl rfl (v := .agg #[.int .u64 (ex : Int), .int .u64 (ey : Int), .int .u64 (ez : Int)]) (W' := W2) (by go_simp) (Grows.refl _) rfl
          | 3, _ =>
            have h1 : (us 1) = .func (.func 41) #[] #[] := hd 1 (by omega) (by kernel_rfl)
            have h2 : (us 2) = .agg #[.int .u64 (ex : Int), .int .u64 (ey : Int), .int .u64 (ez : Int)] := hd 2 (by omega) (by kernel_rfl)
            clear hd
            refine hop_call rfl rfl rfl (f := 41) (args := #[.agg #[.int .u64 (ex : Int), .int .u64 (ey : Int), .int .u64 (ez : Int)]]) (by go_simp) ?_
            exact (HOF.out W2 hG).mono fun _ _ ⟨h1, h2⟩ => ⟨_, h1, h2, rfl⟩
          | 4, _ =>
            have h0 : (us 0) = .map (some B) := hd 0 (by omega) (by kernel_rfl)
            have h3 : (us 3) = .int .u64 kz := hd 3 (by omega) (by kernel_rfl)
            clear hd
            have hlk := HLK.out W2 hG
            exact hop_value rfl rfl rfl (v := .int .u64 (cv : Int)) (W' := W2) (by go_simp) (Grows.refl _) rfl
          | 5, _ =>
            clear hd
            exact hop_value rfl rfl rfl (v := .pointer (some ⟨b9, 2, none⟩)) (W' := W2) (by go_simp) (Grows.refl _) rfl
          | 6, _ =>
            have h5 : (us 5) = .pointer (some ⟨b9, 2, none⟩) := hd 5 (by omega) (by kernel_rfl)
            clear hd
            have c2 := (hG.cell (b := b9) (o := 2) P9.out.2.2.2).trans P9.out.2.2.1
            exact hop_value rfl rfl rfl (v := .int .u64 (ez : Int)) (W' := W2) (by go_simp) (Grows.refl _) rfl
          | 7, _ =>
            have h4 : (us 4) = .int .u64 (cv : Int) := hd 4 (by omega) (by kernel_rfl)
            have h6 : (us 6) = .int .u64 (ez : Int) := hd 6 (by omega) (by kernel_rfl)
            clear hd
            have hsv := HSV.out
            exact hop_value rfl rfl rfl (v := .int .u64 (sv : Int)) (W' := W2) (by go_simp) (Grows.refl _) rfl
          | d + 8, h => exact absurd h (by omega)
        case htailweA_any =>
          intro us W2 hG hf
          have h0 : (us 0) = .map (some B) := hf 0 (by omega)
          have h1 : (us 1) = .func (.func 41) #[] #[] := hf 1 (by omega)
          have h2 : (us 2) = .agg #[.int .u64 (ex : Int), .int .u64 (ey : Int), .int .u64 (ez : Int)] := hf 2 (by omega)
          have h3 : (us 3) = .int .u64 kz := hf 3 (by omega)
          have h4 : (us 4) = .int .u64 (cv : Int) := hf 4 (by omega)
          have h5 : (us 5) = .pointer (some ⟨b9, 2, none⟩) := hf 5 (by omega)
          have h6 : (us 6) = .int .u64 (ez : Int) := hf 6 (by omega)
          have h7 : (us 7) = .int .u64 (sv : Int) := hf 7 (by omega)
          clear hf
          have hown2 := (HM.out.kept (grownBy_of_grows hG) (by simp))
          have HW2 := Lib.hid hG
          simp only [List.drop_succ_cons, List.drop_zero]
          rw [h0, h3, h7]
          clear h0 h1 h2 h3 h4 h5 h6 h7 hG
          at_mapUpdate; refine wpList_mapUpdate_own _ rfl _ _ _ 82 rfl 22 22 (int_keyed Try.underlying22) Try.underlying82 _ B j _ rfl hown2 (by unfold maxLen; omega) _ _ _ rfl rfl (keyOf_int_mk Try.underlying22 HKW.out) _ [] (plainElem_int Try.underlying22 HVW.out) ?_; intro w3 hown3 hg3; have HO3 := Lib.hid hown3; have HB3 := Lib.hid ((HB.out.trans (HW2.out.mono (by have := HB.out.size; omega))).grown hg3 (by have := HB.out.size; have := HW2.out.size; omega) (fun q hq => by cases hq; exact Nat.le_refl _)); clear hown3 hg3
          go_wp2
          refine ⟨⟨j + 1, by go_num, hlt, ⟨_, Lib.hid HO3.out, HPUT.out⟩, HB3⟩, by simp [intOf]; omega⟩
    · have e : j = N := by omega
      subst e
      have ht : l.take j = l := List.take_of_length_le (by rw [HN.out]; exact Nat.le_refl _)
      rw [ht] at HS
      go_wp2
      go_ret
      exact ⟨D, rfl, HM.out, HS, HB.out⟩
set_option maxRecDepth 100000 in
set_option maxHeartbeats 4000000 in
theorem weB_any (l : List Ev) (hl : l.length ≤ 1000000) (hv : ∀ e ∈ l, e.1 < 18446744073709551616 ∧ e.2.1 < 18446744073709551616 ∧ e.2.2 < 18446744073709551616) (w : World) (A : Option Addr) (c : Nat) (h : Lies evL w w.heap.size (.slice A l.length c) l) (f t b1 b2 : Nat) (c1 : w.cell? ⟨b1, 0, none⟩ = some (.int .u64 (f : Int))) (c2 : w.cell? ⟨b2, 0, none⟩ = some (.int .u64 (t : Int))) :
    Calls Try.prog 39 #[.slice A l.length c, .func (.func 46) #[] #[.pointer (some ⟨b1, 0, none⟩), .pointer (some ⟨b2, 0, none⟩)], .func (.func 41) #[] #[]] w fun e w' => ∃ D, e = .returned (.map (some w.heap.size)) ∧ w'.ownsMap Try.prog 22 (plainElem Try.prog 22) w.heap.size l.length D ∧ SumsM .u64 (ofT f t) (fun e => (e.2.1 : Int)) l D ∧ Below w.heap.size w w' := by
  have hmm := @run_makeMap Try.prog
  obtain ⟨N, hN⟩ : ∃ N, l.length = N := ⟨_, rfl⟩
  have HL := Lib.hid h
  rw [hN] at HL hl ⊢
  have HN := Lib.hid hN
  have HV := Lib.hid hv
  obtain ⟨pp, hpp⟩ : ∃ pp, (ofT f t) = pp := ⟨_, rfl⟩
  obtain ⟨cc, hcc⟩ : ∃ cc : Ev → Int, (fun e => (e.2.1 : Int)) = cc := ⟨_, rfl⟩
  have ask : ∀ (e : Ev) (W : World), Below w.heap.size w W → Calls Try.prog 46 #[evS e, .pointer (some ⟨b1, 0, none⟩), .pointer (some ⟨b2, 0, none⟩)] W fun x w' => x = .returned (.bool (pp e)) ∧ Below W.heap.size W w' := by
    intro e W hW
    rw [← hpp]
    exact askB_any e f t b1 b2 W ((hW.cell (p := ⟨b1, 0, none⟩) (lt_of_cell c1)).trans c1) ((hW.cell (p := ⟨b2, 0, none⟩) (lt_of_cell c2)).trans c2)
  have off : ∀ (e : Ev) (W : World), e ∈ l → Below w.heap.size w W → Calls Try.prog 41 #[evS e] W fun x w' => x = .returned (.int .u64 (cc e)) ∧ Below W.heap.size W w' := by
    intro e W he hW
    rw [← hcc]
    exact keyOf_any e W
  have kwf : ∀ e ∈ l, (Lit.int .u64 (cc e)).wf = true := by
    intro e he
    rw [← hcc]
    have := (hv e he).2.1; exact WalkArith.wf_u64 (n := (e.2.1 : Int)) (by omega)
  rw [hpp, hcc]
  have ASK := Lib.hid ask
  have OFF := Lib.hid off
  have KWF := Lib.hid kwf
  obtain ⟨B, hB⟩ : ∃ B, w.heap.size = B := ⟨_, rfl⟩
  clear h hN hv ask off kwf hpp hcc
  have M0 := Lib.hid (World.ownsMap_made (H := Unit) w Try.prog 22 (plainElem Try.prog 22))
  have B0 := Lib.hid ((Below.refl w.heap.size w).alloc (Nat.le_refl _) (.map #[] 0))
  rw [hB] at M0 B0 ASK OFF HL ⊢
  go_enter Try.func39, Try.ntmps39
  go_wp2
  try rw [hB]
  go_loopw [13] (fun s13 wr => ∃ j : Nat, s13 = .int .i64 (j : Int) ∧ j ≤ N ∧ (∃ D, Hid (wr.ownsMap Try.prog 22 (plainElem (H := Unit) Try.prog 22) B j D) ∧ SumsM .u64 pp cc (l.take j) D) ∧ Hid (Below B w wr)) (fun s13 _ => N - (intOf s13).toNat)
  case atStart => exact ⟨0, rfl, Nat.zero_le _, ⟨_, Lib.hid M0.out, SumsM.nil _ _ _⟩, Lib.hid B0.out⟩
  case round =>
    obtain ⟨j, rfl, hj, ⟨D, HM, HS⟩, HB⟩ := hrel
    by_cases hlt : j < N
    · have hjl : j < l.length := by rw [HN.out]; exact hlt
      obtain ⟨b, off, rfl, hb, -, hc⟩ := ev_at (HL.out.below HB.out) (by omega)
      obtain ⟨q0, q1, q2⟩ := hc j hjl
      have hbb : b < wr.heap.size := by have := HB.out.size; rw [← hB] at hb; omega
      have hmem := List.getElem_mem hjl
      have hstep : l.take (j + 1) = l.take j ++ [l[j]] := List.take_succ_eq_append_getElem hjl
      obtain ⟨x, hx⟩ : ∃ x, l[j] = x := ⟨_, rfl⟩
      rw [hx] at q0 q1 q2 hmem hstep
      have hxv := HV.out x hmem
      have hkw := KWF.out x hmem
      have hof := fun W hW => OFF.out x W hmem hW
      have hask := fun W hW => ASK.out x W hW
      clear hc hx hjl
      have HX := Lib.hid hmem
      clear hmem
      obtain ⟨W1, hW1⟩ : ∃ W, wr.alloc (.cells #[.int .u64 (x.1 : Int), .int .u64 (x.2.1 : Int), .int .u64 (x.2.2 : Int)] 41) = W := ⟨_, rfl⟩
      have p1 : W1.heap[wr.heap.size]? = some (.cells #[.int .u64 (x.1 : Int), .int .u64 (x.2.1 : Int), .int .u64 (x.2.2 : Int)] 41) := by rw [← hW1]; exact heap_alloc_new wr _
      have HB1 : Below B w W1 := by rw [← hW1]; exact HB.out.alloc (by have := HB.out.size; omega) _
      have HM1 : W1.ownsMap Try.prog 22 (plainElem Try.prog 22) B j D := by rw [← hW1]; exact HM.out.alloc _
      have hlt9 := lt_of p1
      have hBx : B < wr.heap.size := HM.out.lt
      obtain ⟨b9, hb9⟩ : ∃ b9, wr.heap.size = b9 := ⟨_, rfl⟩
      have HW1 := Lib.hid hW1
      have HP1 := Lib.hid p1
      have HS1 := Lib.hid hstep
      have HBB := Lib.hid HB1
      have HMM := Lib.hid HM1
      have HASK := Lib.hid hask
      have HOF0 := Lib.hid hof
      have HXV := Lib.hid hxv
      have HKW := Lib.hid hkw
      have HKW0 := trivial
      clear p1 hstep HB1 HM1 hask hof hxv hkw HM hlt9 hW1 hmm
      go_upto_region 5 with (fail)
      rw [HW1.out]
      obtain ⟨qb, hqb⟩ : ∃ qb, pp x = qb := ⟨_, rfl⟩
      have hask2 := HASK.out
      rw [hqb] at hask2
      clear HASK
      have HASK := Lib.hid hask2
      clear hask2
      obtain ⟨kz, hkz⟩ : ∃ kz, cc x = kz := ⟨_, rfl⟩
      have hof2 := HOF0.out
      rw [hkz] at hof2 HKW
      have HOF1 := Lib.hid hof2
      clear hof2 HOF0
      have hput := fun (hp : pp x = true) (v : Int) hv => SumsM.put (e := x) (v := v) HS HMM.out.isMap hp hv
      have hskip := fun (hp : pp x = false) => SumsM.skip (e := x) HS hp
      rw [← HS1.out] at hput hskip
      have hel := HS.el kz
      rw [hkz] at hput
      obtain ⟨cv, hcv⟩ : ∃ cv, sumP (fun x => pp x && decide (cc x = kz)) (l.take j) % M64 = cv := ⟨_, rfl⟩
      rw [hcv] at hel hput
      have hcl : cv < M64 := by rw [← hcv]; exact Nat.mod_lt _ (by decide)
      obtain ⟨sv, hsv⟩ : ∃ sv, (cv + x.2.2) % M64 = sv := ⟨_, rfl⟩
      have hsl : sv < M64 := by rw [← hsv]; exact Nat.mod_lt _ (by decide)
      rw [hsv] at hput
      have HSV : Hid (IntKind.u64.wrap ((cv : Int) + (x.2.2 : Int)) = (sv : Int)) := by
        rw [← hsv]
        exact u64_add cv x.2.2
      have HVW : Hid ((Lit.int .u64 (sv : Int)).wf = true) := WalkArith.wf_u64 (by unfold M64 at hsl; omega)
      have HEL := Lib.hid hel
      have HPUT0 := Lib.hid hput
      have HSKIP := Lib.hid hskip
      have HQB := Lib.hid hqb
      clear hput hskip hel hcv hsv hkz HS HXV HKW0
      obtain ⟨ex, ey, ez⟩ := x
      dsimp only at HP1 HASK HOF1 HSV
      rw [hb9] at HP1
      have r0 : W1.cell? ⟨b9, 0, none⟩ = some (.int .u64 (ex : Int)) := by simp [World.cell?, HP1.out]
      have r1 : W1.cell? ⟨b9, 1, none⟩ = some (.int .u64 (ey : Int)) := by simp [World.cell?, HP1.out]
      have r2 : W1.cell? ⟨b9, 2, none⟩ = some (.int .u64 (ez : Int)) := by simp [World.cell?, HP1.out]
      have hl9 : b9 < W1.heap.size := lt_of_cell r0
      clear HP1 HW1
      dsimp only
      cases qb
      · clear HPUT0
        go_wp2_with (go_at_call 46; (with_reducible refine (HASK.out W1 HBB.out).mono ?_); rintro r wx ⟨rfl, hb2⟩; have HB2 := Lib.hid (HBB.out.trans (hb2.mono (by have := HBB.out.size; omega))); have HGX := Lib.hid hb2; clear hb2)
        refine ⟨⟨j + 1, by go_num, hlt, ⟨D, Lib.hid ((HMM.out.kept (grownBy_of_grows HGX.out) (by simp)).mono (Nat.le_succ _)), HSKIP.out HQB.out⟩, HB2⟩, by simp [intOf]; omega⟩
      · go_upto_region 6 with (go_at_call 46; (with_reducible refine (HASK.out W1 HBB.out).mono ?_); rintro r wx ⟨rfl, hb2⟩; have HB2 := Lib.hid (HBB.out.trans (hb2.mono (by have := HBB.out.size; omega))); have HGX := Lib.hid hb2; clear hb2)
        have HPUT := Lib.hid (HPUT0.out HQB.out _ rfl)
        have HM := Lib.hid (HMM.out.kept (grownBy_of_grows HGX.out) (by simp))
        have hx9 : b9 < wx.heap.size := Nat.lt_of_lt_of_le hl9 HGX.out.size
        have P9 := Lib.hid (And.intro ((HGX.out.cell (p := ⟨b9, 0, none⟩) hl9).trans r0) (And.intro ((HGX.out.cell (p := ⟨b9, 1, none⟩) hl9).trans r1) (And.intro ((HGX.out.cell (p := ⟨b9, 2, none⟩) hl9).trans r2) hx9)))
        have hof2 : ∀ W2, Grows wx W2 → Calls Try.prog 41 #[evS (ex, ey, ez)] W2 fun x w' => x = .returned (.int .u64 kz) ∧ Grows W2 w' := fun W2 hG => HOF1.out W2 (HB2.out.trans (hG.mono (by have := HB2.out.size; omega)))
        have hlk : ∀ W2, Grows wx W2 → (Instr.lookup 82 (.map (some B)) (.int .u64 kz) false).run Try.prog W2 = .ok (.int .u64 (cv : Int)) W2 := by
          intro W2 hG
          obtain ⟨c2, hrun, hat, -⟩ := (HM.out.kept (grownBy_of_grows hG) (by simp)).lookup_int (int_keyed Try.underlying22) Try.underlying82 Try.underlying22 (zeroU W2) (keyOf_int_mk Try.underlying22 HKW.out)
          rw [HEL.out] at hat
          injection hat with hat
          injection hat with _ hat
          rw [hrun, hat]
        have HOF := Lib.hid hof2
        have HLK := Lib.hid hlk
        have HB := HB2
        clear hof2 hlk HPUT0 HSKIP HOF1 HEL r0 r1 r2 HMM HBB q0 q1 q2
        refine region_tail (fr := ?frweB_any) 8 [20, 21, 22, 23, 24, 25, 26, 27] (fun i v W => match i with
            | 0 => v = .map (some B)
            | 1 => v = .func (.func 41) #[] #[]
            | 2 => v = .agg #[.int .u64 (ex : Int), .int .u64 (ey : Int), .int .u64 (ez : Int)]
            | 3 => v = .int .u64 kz
            | 4 => v = .int .u64 (cv : Int)
            | 5 => v = .pointer (some ⟨b9, 2, none⟩)
            | 6 => v = .int .u64 (ez : Int)
            | 7 => v = .int .u64 (sv : Int)
            | _ => True) rfl ?hBweB_any (by kernel_rfl) (by kernel_rfl) ?hfrweB_any ?hFweB_any ?hopweB_any ?htailweB_any
        case hBweB_any => kernel_rfl
        case hfrweB_any =>
          intro us
          simp only [putL]
          go_simp
          rfl
        case hFweB_any =>
          intro i v W W' hG h
          match i with
          | 0 => exact h
          | 1 => exact h
          | 2 => exact h
          | 3 => exact h
          | 4 => exact h
          | 5 => exact h
          | 6 => exact h
          | 7 => exact h
          | n + 8 => trivial
        case hopweB_any =>
          intro i hi us W2 hG hd
          match i, hi with
          | 0, _ =>
            clear hd
            exact hop_value rfl rfl rfl (v := .map (some B)) (W' := W2) (by go_simp) (Grows.refl _) rfl
          | 1, _ =>
            clear hd
            exact hop_value rfl rfl rfl (v := .func (.func 41) #[] #[]) (W' := W2) (by go_simp) (Grows.refl _) rfl
          | 2, _ =>
            clear hd
            have c0 := (hG.cell (b := b9) (o := 0) P9.out.2.2.2).trans P9.out.1
            have c1 := (hG.cell (b := b9) (o := 1) P9.out.2.2.2).trans P9.out.2.1
            have c2 := (hG.cell (b := b9) (o := 2) P9.out.2.2.2).trans P9.out.2.2.1
            exact hop_value rfl rfl rfl (v := .agg #[.int .u64 (ex : Int), .int .u64 (ey : Int), .int .u64 (ez : Int)]) (W' := W2) (by go_simp) (Grows.refl _) rfl
          | 3, _ =>
            have h1 : (us 1) = .func (.func 41) #[] #[] := hd 1 (by omega) (by kernel_rfl)
            have h2 : (us 2) = .agg #[.int .u64 (ex : Int), .int .u64 (ey : Int), .int .u64 (ez : Int)] := hd 2 (by omega) (by kernel_rfl)
            clear hd
            refine hop_call rfl rfl rfl (f := 41) (args := #[.agg #[.int .u64 (ex : Int), .int .u64 (ey : Int), .int .u64 (ez : Int)]]) (by go_simp) ?_
            exact (HOF.out W2 hG).mono fun _ _ ⟨h1, h2⟩ => ⟨_, h1, h2, rfl⟩
          | 4, _ =>
            have h0 : (us 0) = .map (some B) := hd 0 (by omega) (by kernel_rfl)
            have h3 : (us 3) = .int .u64 kz := hd 3 (by omega) (by kernel_rfl)
            clear hd
            have hlk := HLK.out W2 hG
            exact hop_value rfl rfl rfl (v := .int .u64 (cv : Int)) (W' := W2) (by go_simp) (Grows.refl _) rfl
          | 5, _ =>
            clear hd
            exact hop_value rfl rfl rfl (v := .pointer (some ⟨b9, 2, none⟩)) (W' := W2) (by go_simp) (Grows.refl _) rfl
          | 6, _ =>
            have h5 : (us 5) = .pointer (some ⟨b9, 2, none⟩) := hd 5 (by omega) (by kernel_rfl)
            clear hd
            have c2 := (hG.cell (b := b9) (o := 2) P9.out.2.2.2).trans P9.out.2.2.1
            exact hop_value rfl rfl rfl (v := .int .u64 (ez : Int)) (W' := W2) (by go_simp) (Grows.refl _) rfl
          | 7, _ =>
            have h4 : (us 4) = .int .u64 (cv : Int) := hd 4 (by omega) (by kernel_rfl)
            have h6 : (us 6) = .int .u64 (ez : Int) := hd 6 (by omega) (by kernel_rfl)
            clear hd
            have hsv := HSV.out
            exact hop_value rfl rfl rfl (v := .int .u64 (sv : Int)) (W' := W2) (by go_simp) (Grows.refl _) rfl
          | d + 8, h => exact absurd h (by omega)
        case htailweB_any =>
          intro us W2 hG hf
          have h0 : (us 0) = .map (some B) := hf 0 (by omega)
          have h1 : (us 1) = .func (.func 41) #[] #[] := hf 1 (by omega)
          have h2 : (us 2) = .agg #[.int .u64 (ex : Int), .int .u64 (ey : Int), .int .u64 (ez : Int)] := hf 2 (by omega)
          have h3 : (us 3) = .int .u64 kz := hf 3 (by omega)
          have h4 : (us 4) = .int .u64 (cv : Int) := hf 4 (by omega)
          have h5 : (us 5) = .pointer (some ⟨b9, 2, none⟩) := hf 5 (by omega)
          have h6 : (us 6) = .int .u64 (ez : Int) := hf 6 (by omega)
          have h7 : (us 7) = .int .u64 (sv : Int) := hf 7 (by omega)
          clear hf
          have hown2 := (HM.out.kept (grownBy_of_grows hG) (by simp))
          have HW2 := Lib.hid hG
          simp only [List.drop_succ_cons, List.drop_zero]
          rw [h0, h3, h7]
          clear h0 h1 h2 h3 h4 h5 h6 h7 hG
          at_mapUpdate; refine wpList_mapUpdate_own _ rfl _ _ _ 82 rfl 22 22 (int_keyed Try.underlying22) Try.underlying82 _ B j _ rfl hown2 (by unfold maxLen; omega) _ _ _ rfl rfl (keyOf_int_mk Try.underlying22 HKW.out) _ [] (plainElem_int Try.underlying22 HVW.out) ?_; intro w3 hown3 hg3; have HO3 := Lib.hid hown3; have HB3 := Lib.hid ((HB.out.trans (HW2.out.mono (by have := HB.out.size; omega))).grown hg3 (by have := HB.out.size; have := HW2.out.size; omega) (fun q hq => by cases hq; exact Nat.le_refl _)); clear hown3 hg3
          go_wp2
          refine ⟨⟨j + 1, by go_num, hlt, ⟨_, Lib.hid HO3.out, HPUT.out⟩, HB3⟩, by simp [intOf]; omega⟩
    · have e : j = N := by omega
      subst e
      have ht : l.take j = l := List.take_of_length_le (by rw [HN.out]; exact Nat.le_refl _)
      rw [ht] at HS
      go_wp2
      go_ret
      exact ⟨D, rfl, HM.out, HS, HB.out⟩
set_option maxRecDepth 100000 in
set_option maxHeartbeats 4000000 in
theorem weC_any (l : List Ev) (hl : l.length ≤ 1000000) (hv : ∀ e ∈ l, e.1 < 18446744073709551616 ∧ e.2.1 < 18446744073709551616 ∧ e.2.2 < 18446744073709551616) (w : World) (A : Option Addr) (c : Nat) (h : Lies evL w w.heap.size (.slice A l.length c) l) (t s b1 b2 : Nat) (ht : t < 18446744073709551616) (c1 : w.cell? ⟨b1, 0, none⟩ = some (.int .u64 (t : Int))) (c2 : w.cell? ⟨b2, 0, none⟩ = some (.int .u64 (s : Int))) (sa sb b3 b4 : Nat) (k : Int) (hsa : sa < 18446744073709551616) (hsb : sb < 18446744073709551616) (k0 : -9223372036854775808 ≤ k) (k1 : k ≤ 9223372036854775807) (c3 : w.cell? ⟨b3, 0, none⟩ = some (.int .u64 (sa : Int))) (c4 : w.cell? ⟨b3, 1, none⟩ = some (.int .u64 (sb : Int))) (c5 : w.cell? ⟨b4, 0, none⟩ = some (.int .i64 k)) :
    Calls Try.prog 43 #[.slice A l.length c, .func (.func 63) #[] #[.pointer (some ⟨b1, 0, none⟩), .pointer (some ⟨b2, 0, none⟩)], .func (.func 44) #[] #[.pointer (some ⟨b3, 0, none⟩), .pointer (some ⟨b4, 0, none⟩)]] w fun e w' => ∃ D, e = .returned (.map (some w.heap.size)) ∧ w'.ownsMap Try.prog 3 (plainElem Try.prog 22) w.heap.size l.length D ∧ SumsM .i64 (inB t s) (fun e => col sa sb e.2.1 k) l D ∧ Below w.heap.size w w' := by
  have hmm := @run_makeMap Try.prog
  obtain ⟨N, hN⟩ : ∃ N, l.length = N := ⟨_, rfl⟩
  have HL := Lib.hid h
  rw [hN] at HL hl ⊢
  have HN := Lib.hid hN
  have HV := Lib.hid hv
  obtain ⟨pp, hpp⟩ : ∃ pp, (inB t s) = pp := ⟨_, rfl⟩
  obtain ⟨cc, hcc⟩ : ∃ cc : Ev → Int, (fun e => col sa sb e.2.1 k) = cc := ⟨_, rfl⟩
  have ask : ∀ (e : Ev) (W : World), Below w.heap.size w W → Calls Try.prog 63 #[evS e, .pointer (some ⟨b1, 0, none⟩), .pointer (some ⟨b2, 0, none⟩)] W fun x w' => x = .returned (.bool (pp e)) ∧ Below W.heap.size W w' := by
    intro e W hW
    rw [← hpp]
    exact askA_any e t s b1 b2 W ht ((hW.cell (p := ⟨b1, 0, none⟩) (lt_of_cell c1)).trans c1) ((hW.cell (p := ⟨b2, 0, none⟩) (lt_of_cell c2)).trans c2)
  have off : ∀ (e : Ev) (W : World), e ∈ l → Below w.heap.size w W → Calls Try.prog 44 #[evS e, .pointer (some ⟨b3, 0, none⟩), .pointer (some ⟨b4, 0, none⟩)] W fun x w' => x = .returned (.int .i64 (cc e)) ∧ Below W.heap.size W w' := by
    intro e W he hW
    rw [← hcc]
    exact colOf_any e (hv e he).2.1 sa sb b3 b4 k hsa hsb k0 k1 W ((hW.cell (p := ⟨b3, 0, none⟩) (lt_of_cell c3)).trans c3) ((hW.cell (p := ⟨b3, 1, none⟩) (lt_of_cell c4)).trans c4) ((hW.cell (p := ⟨b4, 0, none⟩) (lt_of_cell c5)).trans c5)
  have kwf : ∀ e ∈ l, (Lit.int .i64 (cc e)).wf = true := by
    intro e he
    rw [← hcc]
    have := col_in sa sb e.2.1 k k1; exact WalkArith.wf_i64 (n := col sa sb e.2.1 k) (by omega)
  rw [hpp, hcc]
  have ASK := Lib.hid ask
  have OFF := Lib.hid off
  have KWF := Lib.hid kwf
  obtain ⟨B, hB⟩ : ∃ B, w.heap.size = B := ⟨_, rfl⟩
  clear h hN hv ask off kwf hpp hcc
  have M0 := Lib.hid (World.ownsMap_made (H := Unit) w Try.prog 3 (plainElem Try.prog 22))
  have B0 := Lib.hid ((Below.refl w.heap.size w).alloc (Nat.le_refl _) (.map #[] 0))
  rw [hB] at M0 B0 ASK OFF HL ⊢
  go_enter Try.func43, Try.ntmps43
  go_wp2
  try rw [hB]
  go_loopw [13] (fun s13 wr => ∃ j : Nat, s13 = .int .i64 (j : Int) ∧ j ≤ N ∧ (∃ D, Hid (wr.ownsMap Try.prog 3 (plainElem (H := Unit) Try.prog 22) B j D) ∧ SumsM .i64 pp cc (l.take j) D) ∧ Hid (Below B w wr)) (fun s13 _ => N - (intOf s13).toNat)
  case atStart => exact ⟨0, rfl, Nat.zero_le _, ⟨_, Lib.hid M0.out, SumsM.nil _ _ _⟩, Lib.hid B0.out⟩
  case round =>
    obtain ⟨j, rfl, hj, ⟨D, HM, HS⟩, HB⟩ := hrel
    by_cases hlt : j < N
    · have hjl : j < l.length := by rw [HN.out]; exact hlt
      obtain ⟨b, off, rfl, hb, -, hc⟩ := ev_at (HL.out.below HB.out) (by omega)
      obtain ⟨q0, q1, q2⟩ := hc j hjl
      have hbb : b < wr.heap.size := by have := HB.out.size; rw [← hB] at hb; omega
      have hmem := List.getElem_mem hjl
      have hstep : l.take (j + 1) = l.take j ++ [l[j]] := List.take_succ_eq_append_getElem hjl
      obtain ⟨x, hx⟩ : ∃ x, l[j] = x := ⟨_, rfl⟩
      rw [hx] at q0 q1 q2 hmem hstep
      have hxv := HV.out x hmem
      have hkw := KWF.out x hmem
      have hof := fun W hW => OFF.out x W hmem hW
      have hask := fun W hW => ASK.out x W hW
      clear hc hx hjl
      have HX := Lib.hid hmem
      clear hmem
      obtain ⟨W1, hW1⟩ : ∃ W, wr.alloc (.cells #[.int .u64 (x.1 : Int), .int .u64 (x.2.1 : Int), .int .u64 (x.2.2 : Int)] 41) = W := ⟨_, rfl⟩
      have p1 : W1.heap[wr.heap.size]? = some (.cells #[.int .u64 (x.1 : Int), .int .u64 (x.2.1 : Int), .int .u64 (x.2.2 : Int)] 41) := by rw [← hW1]; exact heap_alloc_new wr _
      have HB1 : Below B w W1 := by rw [← hW1]; exact HB.out.alloc (by have := HB.out.size; omega) _
      have HM1 : W1.ownsMap Try.prog 3 (plainElem Try.prog 22) B j D := by rw [← hW1]; exact HM.out.alloc _
      have hlt9 := lt_of p1
      have hBx : B < wr.heap.size := HM.out.lt
      obtain ⟨b9, hb9⟩ : ∃ b9, wr.heap.size = b9 := ⟨_, rfl⟩
      have HW1 := Lib.hid hW1
      have HP1 := Lib.hid p1
      have HS1 := Lib.hid hstep
      have HBB := Lib.hid HB1
      have HMM := Lib.hid HM1
      have HASK := Lib.hid hask
      have HOF0 := Lib.hid hof
      have HXV := Lib.hid hxv
      have HKW := Lib.hid hkw
      have HKW0 := trivial
      clear p1 hstep HB1 HM1 hask hof hxv hkw HM hlt9 hW1 hmm
      go_upto_region 5 with (fail)
      rw [HW1.out]
      obtain ⟨qb, hqb⟩ : ∃ qb, pp x = qb := ⟨_, rfl⟩
      have hask2 := HASK.out
      rw [hqb] at hask2
      clear HASK
      have HASK := Lib.hid hask2
      clear hask2
      obtain ⟨kz, hkz⟩ : ∃ kz, cc x = kz := ⟨_, rfl⟩
      have hof2 := HOF0.out
      rw [hkz] at hof2 HKW
      have HOF1 := Lib.hid hof2
      clear hof2 HOF0
      have hput := fun (hp : pp x = true) (v : Int) hv => SumsM.put (e := x) (v := v) HS HMM.out.isMap hp hv
      have hskip := fun (hp : pp x = false) => SumsM.skip (e := x) HS hp
      rw [← HS1.out] at hput hskip
      have hel := HS.el kz
      rw [hkz] at hput
      obtain ⟨cv, hcv⟩ : ∃ cv, sumP (fun x => pp x && decide (cc x = kz)) (l.take j) % M64 = cv := ⟨_, rfl⟩
      rw [hcv] at hel hput
      have hcl : cv < M64 := by rw [← hcv]; exact Nat.mod_lt _ (by decide)
      obtain ⟨sv, hsv⟩ : ∃ sv, (cv + x.2.2) % M64 = sv := ⟨_, rfl⟩
      have hsl : sv < M64 := by rw [← hsv]; exact Nat.mod_lt _ (by decide)
      rw [hsv] at hput
      have HSV : Hid (IntKind.u64.wrap ((cv : Int) + (x.2.2 : Int)) = (sv : Int)) := by
        rw [← hsv]
        exact u64_add cv x.2.2
      have HVW : Hid ((Lit.int .u64 (sv : Int)).wf = true) := WalkArith.wf_u64 (by unfold M64 at hsl; omega)
      have HEL := Lib.hid hel
      have HPUT0 := Lib.hid hput
      have HSKIP := Lib.hid hskip
      have HQB := Lib.hid hqb
      clear hput hskip hel hcv hsv hkz HS HXV HKW0
      obtain ⟨ex, ey, ez⟩ := x
      dsimp only at HP1 HASK HOF1 HSV
      rw [hb9] at HP1
      have r0 : W1.cell? ⟨b9, 0, none⟩ = some (.int .u64 (ex : Int)) := by simp [World.cell?, HP1.out]
      have r1 : W1.cell? ⟨b9, 1, none⟩ = some (.int .u64 (ey : Int)) := by simp [World.cell?, HP1.out]
      have r2 : W1.cell? ⟨b9, 2, none⟩ = some (.int .u64 (ez : Int)) := by simp [World.cell?, HP1.out]
      have hl9 : b9 < W1.heap.size := lt_of_cell r0
      clear HP1 HW1
      dsimp only
      cases qb
      · clear HPUT0
        go_wp2_with (go_at_call 63; (with_reducible refine (HASK.out W1 HBB.out).mono ?_); rintro r wx ⟨rfl, hb2⟩; have HB2 := Lib.hid (HBB.out.trans (hb2.mono (by have := HBB.out.size; omega))); have HGX := Lib.hid hb2; clear hb2)
        refine ⟨⟨j + 1, by go_num, hlt, ⟨D, Lib.hid ((HMM.out.kept (grownBy_of_grows HGX.out) (by simp)).mono (Nat.le_succ _)), HSKIP.out HQB.out⟩, HB2⟩, by simp [intOf]; omega⟩
      · go_upto_region 6 with (go_at_call 63; (with_reducible refine (HASK.out W1 HBB.out).mono ?_); rintro r wx ⟨rfl, hb2⟩; have HB2 := Lib.hid (HBB.out.trans (hb2.mono (by have := HBB.out.size; omega))); have HGX := Lib.hid hb2; clear hb2)
        have HPUT := Lib.hid (HPUT0.out HQB.out _ rfl)
        have HM := Lib.hid (HMM.out.kept (grownBy_of_grows HGX.out) (by simp))
        have hx9 : b9 < wx.heap.size := Nat.lt_of_lt_of_le hl9 HGX.out.size
        have P9 := Lib.hid (And.intro ((HGX.out.cell (p := ⟨b9, 0, none⟩) hl9).trans r0) (And.intro ((HGX.out.cell (p := ⟨b9, 1, none⟩) hl9).trans r1) (And.intro ((HGX.out.cell (p := ⟨b9, 2, none⟩) hl9).trans r2) hx9)))
        have hof2 : ∀ W2, Grows wx W2 → Calls Try.prog 44 #[evS (ex, ey, ez), .pointer (some ⟨b3, 0, none⟩), .pointer (some ⟨b4, 0, none⟩)] W2 fun x w' => x = .returned (.int .i64 kz) ∧ Grows W2 w' := fun W2 hG => HOF1.out W2 (HB2.out.trans (hG.mono (by have := HB2.out.size; omega)))
        have hlk : ∀ W2, Grows wx W2 → (Instr.lookup 88 (.map (some B)) (.int .i64 kz) false).run Try.prog W2 = .ok (.int .u64 (cv : Int)) W2 := by
          intro W2 hG
          obtain ⟨c2, hrun, hat, -⟩ := (HM.out.kept (grownBy_of_grows hG) (by simp)).lookup_int (int_keyed Try.underlying3) Try.underlying88 Try.underlying22 (zeroU W2) (keyOf_int_mk Try.underlying3 HKW.out)
          rw [HEL.out] at hat
          injection hat with hat
          injection hat with _ hat
          rw [hrun, hat]
        have HOF := Lib.hid hof2
        have HLK := Lib.hid hlk
        have HB := HB2
        clear hof2 hlk HPUT0 HSKIP HOF1 HEL r0 r1 r2 HMM HBB q0 q1 q2
        refine region_tail (fr := ?frweC_any) 8 [20, 21, 22, 23, 24, 25, 26, 27] (fun i v W => match i with
            | 0 => v = .map (some B)
            | 1 => v = .func (.func 44) #[] #[.pointer (some ⟨b3, 0, none⟩), .pointer (some ⟨b4, 0, none⟩)]
            | 2 => v = .agg #[.int .u64 (ex : Int), .int .u64 (ey : Int), .int .u64 (ez : Int)]
            | 3 => v = .int .i64 kz
            | 4 => v = .int .u64 (cv : Int)
            | 5 => v = .pointer (some ⟨b9, 2, none⟩)
            | 6 => v = .int .u64 (ez : Int)
            | 7 => v = .int .u64 (sv : Int)
            | _ => True) rfl ?hBweC_any (by kernel_rfl) (by kernel_rfl) ?hfrweC_any ?hFweC_any ?hopweC_any ?htailweC_any
        case hBweC_any => kernel_rfl
        case hfrweC_any =>
          intro us
          simp only [putL]
          go_simp
          rfl
        case hFweC_any =>
          intro i v W W' hG h
          match i with
          | 0 => exact h
          | 1 => exact h
          | 2 => exact h
          | 3 => exact h
          | 4 => exact h
          | 5 => exact h
          | 6 => exact h
          | 7 => exact h
          | n + 8 => trivial
        case hopweC_any =>
          intro i hi us W2 hG hd
          match i, hi with
          | 0, _ =>
            clear hd
            exact hop_value rfl rfl rfl (v := .map (some B)) (W' := W2) (by go_simp) (Grows.refl _) rfl
          | 1, _ =>
            clear hd
            exact hop_value rfl rfl rfl (v := .func (.func 44) #[] #[.pointer (some ⟨b3, 0, none⟩), .pointer (some ⟨b4, 0, none⟩)]) (W' := W2) (by go_simp) (Grows.refl _) rfl
          | 2, _ =>
            clear hd
            have c0 := (hG.cell (b := b9) (o := 0) P9.out.2.2.2).trans P9.out.1
            have c1 := (hG.cell (b := b9) (o := 1) P9.out.2.2.2).trans P9.out.2.1
            have c2 := (hG.cell (b := b9) (o := 2) P9.out.2.2.2).trans P9.out.2.2.1
            exact hop_value rfl rfl rfl (v := .agg #[.int .u64 (ex : Int), .int .u64 (ey : Int), .int .u64 (ez : Int)]) (W' := W2) (by go_simp) (Grows.refl _) rfl
          | 3, _ =>
            have h1 : (us 1) = .func (.func 44) #[] #[.pointer (some ⟨b3, 0, none⟩), .pointer (some ⟨b4, 0, none⟩)] := hd 1 (by omega) (by kernel_rfl)
            have h2 : (us 2) = .agg #[.int .u64 (ex : Int), .int .u64 (ey : Int), .int .u64 (ez : Int)] := hd 2 (by omega) (by kernel_rfl)
            clear hd
            refine hop_call rfl rfl rfl (f := 44) (args := #[.agg #[.int .u64 (ex : Int), .int .u64 (ey : Int), .int .u64 (ez : Int)], .pointer (some ⟨b3, 0, none⟩), .pointer (some ⟨b4, 0, none⟩)]) (by go_simp) ?_
            exact (HOF.out W2 hG).mono fun _ _ ⟨h1, h2⟩ => ⟨_, h1, h2, rfl⟩
          | 4, _ =>
            have h0 : (us 0) = .map (some B) := hd 0 (by omega) (by kernel_rfl)
            have h3 : (us 3) = .int .i64 kz := hd 3 (by omega) (by kernel_rfl)
            clear hd
            have hlk := HLK.out W2 hG
            exact hop_value rfl rfl rfl (v := .int .u64 (cv : Int)) (W' := W2) (by go_simp) (Grows.refl _) rfl
          | 5, _ =>
            clear hd
            exact hop_value rfl rfl rfl (v := .pointer (some ⟨b9, 2, none⟩)) (W' := W2) (by go_simp) (Grows.refl _) rfl
          | 6, _ =>
            have h5 : (us 5) = .pointer (some ⟨b9, 2, none⟩) := hd 5 (by omega) (by kernel_rfl)
            clear hd
            have c2 := (hG.cell (b := b9) (o := 2) P9.out.2.2.2).trans P9.out.2.2.1
            exact hop_value rfl rfl rfl (v := .int .u64 (ez : Int)) (W' := W2) (by go_simp) (Grows.refl _) rfl
          | 7, _ =>
            have h4 : (us 4) = .int .u64 (cv : Int) := hd 4 (by omega) (by kernel_rfl)
            have h6 : (us 6) = .int .u64 (ez : Int) := hd 6 (by omega) (by kernel_rfl)
            clear hd
            have hsv := HSV.out
            exact hop_value rfl rfl rfl (v := .int .u64 (sv : Int)) (W' := W2) (by go_simp) (Grows.refl _) rfl
          | d + 8, h => exact absurd h (by omega)
        case htailweC_any =>
          intro us W2 hG hf
          have h0 : (us 0) = .map (some B) := hf 0 (by omega)
          have h1 : (us 1) = .func (.func 44) #[] #[.pointer (some ⟨b3, 0, none⟩), .pointer (some ⟨b4, 0, none⟩)] := hf 1 (by omega)
          have h2 : (us 2) = .agg #[.int .u64 (ex : Int), .int .u64 (ey : Int), .int .u64 (ez : Int)] := hf 2 (by omega)
          have h3 : (us 3) = .int .i64 kz := hf 3 (by omega)
          have h4 : (us 4) = .int .u64 (cv : Int) := hf 4 (by omega)
          have h5 : (us 5) = .pointer (some ⟨b9, 2, none⟩) := hf 5 (by omega)
          have h6 : (us 6) = .int .u64 (ez : Int) := hf 6 (by omega)
          have h7 : (us 7) = .int .u64 (sv : Int) := hf 7 (by omega)
          clear hf
          have hown2 := (HM.out.kept (grownBy_of_grows hG) (by simp))
          have HW2 := Lib.hid hG
          simp only [List.drop_succ_cons, List.drop_zero]
          rw [h0, h3, h7]
          clear h0 h1 h2 h3 h4 h5 h6 h7 hG
          at_mapUpdate; refine wpList_mapUpdate_own _ rfl _ _ _ 88 rfl 3 22 (int_keyed Try.underlying3) Try.underlying88 _ B j _ rfl hown2 (by unfold maxLen; omega) _ _ _ rfl rfl (keyOf_int_mk Try.underlying3 HKW.out) _ [] (plainElem_int Try.underlying22 HVW.out) ?_; intro w3 hown3 hg3; have HO3 := Lib.hid hown3; have HB3 := Lib.hid ((HB.out.trans (HW2.out.mono (by have := HB.out.size; omega))).grown hg3 (by have := HB.out.size; have := HW2.out.size; omega) (fun q hq => by cases hq; exact Nat.le_refl _)); clear hown3 hg3
          go_wp2
          refine ⟨⟨j + 1, by go_num, hlt, ⟨_, Lib.hid HO3.out, HPUT.out⟩, HB3⟩, by simp [intOf]; omega⟩
    · have e : j = N := by omega
      subst e
      have ht : l.take j = l := List.take_of_length_le (by rw [HN.out]; exact Nat.le_refl _)
      rw [ht] at HS
      go_wp2
      go_ret
      exact ⟨D, rfl, HM.out, HS, HB.out⟩
end Go.Proofs.Ythncmjimfkbofaa
end
section
/- The contracts of scan.within, Sum and In. -/
namespace Go.Proofs.Sc
open Go Go.Proofs.Lh
/-- A key is told: its weight is added. -/
theorem sum_left {q : IntKind} (p : Ev → Bool) (c : Ev → Int) (left : Lit → Bool) (x : Int) (hx : left (.int q x) = true) (l : List Ev) :
    sumP (fun e => p e && !(left (.int q (c e)) && !(Lit.int q (c e)).sameKey (.int q x))) l = sumP (fun e => p e && !left (.int q (c e))) l + sumP (fun e => p e && decide (c e = x)) l := by
  induction l with
  | nil => rfl
  | cons e l ih =>
    rw [sumP_cons, sumP_cons, sumP_cons, ih]
    by_cases h : c e = x
    · have hs : (Lit.int q (c e)).sameKey (.int q x) = true := by rw [h]; exact WideAt.sameKey_self trivial
      rw [hs, show left (.int q (c e)) = true by rw [h]; exact hx]
      simp [h]
      omega
    · have hs : (Lit.int q (c e)).sameKey (.int q x) = false := Maps.sameKey_ne (lit_ne h)
      rw [hs]
      simp [h]
      omega
theorem sumP_false : ∀ l : List Ev, sumP (fun _ => false) l = 0
  | [] => rfl
  | e :: l => by rw [sumP_cons, sumP_false l]; rfl
theorem sum_start {q : IntKind} {p : Ev → Bool} {c : Ev → Int} {l : List Ev} {D : DataW Unit} (h : SumsM q p c l D) : sumP (fun e => p e && !Maps.has D (.int q (c e))) l = 0 := by
  have : ∀ e ∈ l, (p e && !Maps.has D (.int q (c e))) = false := by
    intro e he
    rw [h.has]
    cases hp : p e
    · rfl
    · have : l.any (fun x => p x && decide (c x = c e)) = true := List.any_eq_true.2 ⟨e, he, by simp [hp]⟩
      rw [this]
      rfl
  rw [sumP_congr (q := fun _ => false) this]
  exact sumP_false l
theorem sum_end {q : IntKind} (p : Ev → Bool) (c : Ev → Int) (left : Lit → Bool) (h : ∀ k, left k = false) (l : List Ev) : sumP (fun e => p e && !left (.int q (c e))) l = sumP p l := sumP_congr fun e _ => by rw [h]; simp
end Go.Proofs.Sc
namespace Go.Proofs.Ythncmjimfkbofaa
set_option linter.unusedVariables false
open Go.RowKit Go.Shelf Go.Proofs.Rw Go.Proofs.Lh Go.Proofs.Bu Go.Proofs.Sc Go.Proofs.Wm Go.Proofs.Rf Go.Maps

/-- Numbers of events that the model bears. -/
abbrev U64s (l : List Ev) : Prop := ∀ e ∈ l, e.1 < 18446744073709551616 ∧ e.2.1 < 18446744073709551616 ∧ e.2.2 < 18446744073709551616
theorem swithin_any (t s : Int) (w : World) :
    Calls Try.prog 40 #[.int .u64 t, .int .u64 s] w fun e w' => e = .returned (.func (.func 63) #[] #[.pointer (some ⟨w.heap.size, 0, none⟩), .pointer (some ⟨w.heap.size + 1, 0, none⟩)]) ∧
      w'.cell? ⟨w.heap.size, 0, none⟩ = some (.int .u64 t) ∧ w'.cell? ⟨w.heap.size + 1, 0, none⟩ = some (.int .u64 s) ∧ Below w.heap.size w w' := by
  obtain ⟨W0, hW0, hsz, p0, p1, b0⟩ := heap_two w (.cells #[.int .u64 t] 22) (.cells #[.int .u64 s] 22)
  have HW0 := Lib.hid hW0
  have P := Lib.hid (And.intro p0 (And.intro p1 b0))
  clear hW0 p0 p1 b0
  go_enter Try.func40, Try.ntmps40
  go_wp2
  go_ret
  rw [← HW0.out]
  obtain ⟨p0, p1, b0⟩ := P.out
  exact ⟨rfl, by simp [World.cell?, p0], by simp [World.cell?, p1], b0⟩

set_option maxRecDepth 100000 in
set_option maxHeartbeats 4000000 in
theorem scSum_any (l : List Ev) (hl : l.length ≤ 1000000) (hv : U64s l) (t s : Nat) (ht : t < 18446744073709551616) (w : World) (A : Option Addr) (c : Nat) (h : Lies evL w w.heap.size (.slice A l.length c) l) :
    Calls Try.prog 19 #[.slice A l.length c, .int .u64 (t : Int), .int .u64 (s : Int)] w fun e w' => e = .returned (.int .u64 ((sumP (inB t s) l % M64 : Nat) : Int)) ∧ Below w.heap.size w w' := by
  have hw1 := swithin_any (t : Int) (s : Int) w
  have hw2 := fun (W : World) (hB : Below w.heap.size w W) (hs : w.heap.size ≤ W.heap.size) c1 c2 => weA_any l hl hv W A c ((h.below hB).mono hs) t s w.heap.size (w.heap.size + 1) ht c1 c2
  obtain ⟨N, hN⟩ : ∃ N, l.length = N := ⟨_, rfl⟩
  rw [hN] at hw2 ⊢
  obtain ⟨p, hp⟩ : ∃ p, inB t s = p := ⟨_, rfl⟩
  rw [hp] at hw2 ⊢
  have H1 := Lib.hid hw1
  have H2 := Lib.hid hw2
  clear hw1 hw2 h hN hl hv hp ht
  go_enter Try.func19, Try.ntmps19
  go_wp2_with (first
    | (go_at_call 40; (with_reducible refine H1.out.mono ?_); rintro e w1 ⟨rfl, c1, c2, hb⟩; have C1 := Lib.hid c1; have C2 := Lib.hid c2; have HB1 := Lib.hid hb; clear c1 c2 hb)
    | (go_at_call 39; (with_reducible refine (H2.out _ HB1.out HB1.out.size C1.out C2.out).mono ?_); rintro e w2 ⟨D, rfl, ho, hs, hb⟩; have HO := Lib.hid ho; have HS := Lib.hid hs; have HB2 := Lib.hid (thn HB1.out hb); clear ho hs hb)
    | (at_range; refine wpList_range_own _ rfl _ 82 rfl 22 22 (int_keyed Try.underlying22) Try.underlying82 _ w1.heap.size N D rfl HO.out ?_; intro w3 hrg hg hsz; have HR := Lib.hid hrg; have HG := Lib.hid hg; clear hrg hg)
    | go_in)
  go_frame
  obtain ⟨r, hr⟩ : ∃ r, w2.heap.size = r := ⟨_, rfl⟩
  obtain ⟨B, hB⟩ : ∃ B, w1.heap.size = B := ⟨_, rfl⟩
  rw [hr] at HR ⊢
  rw [hB] at HR HO
  have hwr : w.heap.size ≤ r := by have := HB2.out.size; omega
  have HB3 := Lib.hid (HB2.out.grown HG.out HB2.out.size (fun q hq => by cases hq))
  clear hsz HG
  go_loopw [7] (fun s7 wr => ∃ left cnt, s7 = .int .u64 ((sumP (fun e => p e && !left (.int .u64 (e.2.1 : Int))) l % M64 : Nat) : Int) ∧ Hid (wr.ranges Try.prog 22 (plainElem Try.prog 22) B r N D left cnt) ∧ Hid (Below w.heap.size w wr)) (fun _ wr => wr.rangeLeft B r)
  case atStart => exact ⟨_, _, by rw [sum_start HS.out]; rfl, HR, HB3⟩
  case round =>
    obtain ⟨left, cnt, rfl, HRR, HB⟩ := hrel
    obtain ⟨z, hz⟩ : ∃ z, sumP (fun e => p e && !left (.int .u64 (e.2.1 : Int))) l % M64 = z := ⟨_, rfl⟩
    rw [hz]
    go_wp2_with (first
      | (at_next; refine wpList_next_ranges_ii _ rfl _ rfl 22 22 .u64 .u64 (int_keyed Try.underlying22) Try.underlying22 Try.underlying22 B r N _ _ _ rfl HRR.out ?_ ?_)
      | go_in)
    · intro hc0 hl0
      go_wp2
      go_ret
      refine ⟨?_, HB.out⟩
      rw [← hz, sum_end p (fun e => (e.2.1 : Int)) left hl0]
      rfl
    · intro x cv w4 cnt4 hwx hwc hlx hat hrg4 hlt hg4 hs4 hen
      have he := HS.out.el x
      rw [hat] at he
      injection he with he
      injection he with _ he
      have hsum := sum_left p (fun e => (e.2.1 : Int)) left x hlx l
      try dsimp only at hsum
      obtain ⟨y, hy⟩ : ∃ y, sumP (fun e => p e && decide ((e.2.1 : Int) = x)) l = y := ⟨_, rfl⟩
      rw [hy] at he hsum
      subst he
      have hadd : IntKind.u64.wrap ((z : Int) + ((y % M64 : Nat) : Int)) = ((sumP (fun e => p e && !(left (.int .u64 (e.2.1 : Int)) && !(Lit.int .u64 (e.2.1 : Int)).sameKey (.int .u64 x))) l % M64 : Nat) : Int) := by
        rw [u64_add, hsum, ← hz, ← Nat.add_mod]
      have HRG4 := Lib.hid hrg4
      have HB4 := Lib.hid (HB.out.grown hg4 HB.out.size (fun q hq => by cases hq; exact hwr))
      have HADD := Lib.hid hadd
      obtain ⟨yy, hyy⟩ : ∃ yy, y % M64 = yy := ⟨_, rfl⟩
      rw [hyy] at HADD hen ⊢
      clear hrg4 hg4 hadd hsum hy hz hat
      go_wp2
      refine ⟨⟨fun z => left z && !z.sameKey (.int .u64 x), ?_, cnt4, HRG4⟩, ?_⟩
      · exact HADD.out
      · rw [HRG4.out.left_eq, HRR.out.left_eq]; exact hlt

set_option maxRecDepth 100000 in
set_option maxHeartbeats 4000000 in
theorem scIn_any (l : List Ev) (hl : l.length ≤ 1000000) (hv : U64s l) (t s : Nat) (ht : t < 18446744073709551616) (sa sb : Nat) (hsa : sa < 18446744073709551616) (hsb : sb < 18446744073709551616) (k j : Int) (k0 : -9223372036854775808 ≤ k) (k1 : k ≤ 9223372036854775807) (j0 : -9223372036854775808 ≤ j) (j1 : j ≤ 9223372036854775807)
    (w : World) (A : Option Addr) (c : Nat) (h : Lies evL w w.heap.size (.slice A l.length c) l) :
    Calls Try.prog 21 #[.slice A l.length c, .int .u64 (t : Int), .int .u64 (s : Int), .agg #[.int .u64 (sa : Int), .int .u64 (sb : Int)], .int .i64 k, .int .i64 j] w fun e w' => e = .returned (.int .u64 ((sumP (fun e => inB t s e && decide (col sa sb e.2.1 k = j)) l % M64 : Nat) : Int)) ∧ Below w.heap.size w w' := by
  obtain ⟨W0, hW0, hsz, p0, p1, b0⟩ := heap_two w (.cells #[.int .u64 (sa : Int), .int .u64 (sb : Int)] 47) (.cells #[.int .i64 k] 3)
  have hw1 := swithin_any (t : Int) (s : Int) W0
  have l0 : w.heap.size < W0.heap.size := lt_of p0
  have l1 : w.heap.size + 1 < W0.heap.size := lt_of p1
  have x0 : W0.cell? ⟨w.heap.size, 0, none⟩ = some (.int .u64 (sa : Int)) := by simp [World.cell?, p0]
  have x1 : W0.cell? ⟨w.heap.size, 1, none⟩ = some (.int .u64 (sb : Int)) := by simp [World.cell?, p0]
  have x2 : W0.cell? ⟨w.heap.size + 1, 0, none⟩ = some (.int .i64 k) := by simp [World.cell?, p1]
  have hw2 := fun (W : World) (hB : Below W0.heap.size W0 W) c1 c2 => weC_any l hl hv W A c (((h.below b0).below (hB.mono b0.size)).mono (Nat.le_trans b0.size hB.size)) t s W0.heap.size (W0.heap.size + 1) ht c1 c2 sa sb w.heap.size (w.heap.size + 1) k hsa hsb k0 k1
    ((hB.cell (p := ⟨w.heap.size, 0, none⟩) l0).trans x0) ((hB.cell (p := ⟨w.heap.size, 1, none⟩) l0).trans x1) ((hB.cell (p := ⟨w.heap.size + 1, 0, none⟩) l1).trans x2)
  obtain ⟨N, hN⟩ : ∃ N, l.length = N := ⟨_, rfl⟩
  rw [hN] at hw2 ⊢
  have H1 := Lib.hid hw1
  have H2 := Lib.hid hw2
  have HW0 := Lib.hid hW0
  have B0 := Lib.hid b0
  clear hw1 hw2 h hN hl hv ht p0 p1 b0 x0 x1 x2 l0 l1 hW0 k0 k1 hsz
  go_enter Try.func21, Try.ntmps21
  go_upto_region 1 with (fail)
  rw [← HW0.out]
  go_wp2_with (first
    | (go_at_call 40; (with_reducible refine H1.out.mono ?_); rintro e w1 ⟨rfl, c1, c2, hb⟩; have C1 := Lib.hid c1; have C2 := Lib.hid c2; have HB1 := Lib.hid hb; clear c1 c2 hb)
    | (go_at_call 43; (with_reducible refine (H2.out _ HB1.out C1.out C2.out).mono ?_); rintro e w2 ⟨D, rfl, ho, hs, hb⟩; have HO := Lib.hid ho; have HS := Lib.hid hs; have HB2 := Lib.hid (thn (thn B0.out HB1.out) hb); clear ho hs hb)
    | (at_lookup; refine wpList_lookup_own_int _ rfl _ _ 88 rfl 3 22 .u64 (int_keyed Try.underlying3) Try.underlying88 Try.underlying22 (zeroU _) _ _ _ rfl HO.out _ _ rfl (keyOf_int_mk Try.underlying3 (WalkArith.wf_i64 ⟨j0, j1⟩)) ?_; intro cv hat hwc)
    | go_in)
  have he := HS.out.el j
  rw [hat] at he
  injection he with he
  injection he with _ he
  subst he
  go_wp2
  go_ret
  exact ⟨rfl, HB2.out⟩
end Go.Proofs.Ythncmjimfkbofaa
end
