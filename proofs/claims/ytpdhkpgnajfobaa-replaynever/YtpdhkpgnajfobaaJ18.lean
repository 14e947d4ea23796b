/- For regions that load two histograms, ask whether they are the same, and lay both into results: facts that last. · skylightlaw10.merged: what the program and the document tell of histograms merged is the same. · Histograms that were made, as a merge is asked of them. · Plain mathematics: an event by itself is as a histogram of its weight. -/
import Derived.Test.YtpdhkpgnajfobaaJ17
section
/- For regions that load two histograms, ask whether they are the same, and lay both into results: facts that last. -/
namespace Go.Proofs.Ytpdhkpgnajfobaa
open Go.RowKit Go.Shelf Go.Proofs.Rw Go.Proofs.Lh Go.Proofs.Rf

abbrev hs3 (W : World) (p : Nat) (x y z : Value) : World := ((W.setCell ⟨p, 0, none⟩ x).setCell ⟨p, 1, none⟩ y).setCell ⟨p, 2, none⟩ z
/-- What operation j does: memory grows; or p is written, or q. -/
def E2 (s1 p : Nat) (x y z : Value) (s2 q : Nat) (x' y' z' : Value) (j : Nat) (W W' : World) : Prop := Grows W W' ∨ (j = s1 ∧ W' = hs3 W p x y z) ∨ (j = s2 ∧ W' = hs3 W q x' y' z')
/-- What stands in memory on the way: the two variables a, b, and what they hold; the results p, q. -/
structure G2 (T1 T2 : TypeId) (w : World) (pa pb p q : Nat) (k g k' g' : Int) (la lb : Lv) (A A2 : Option Addr) (c c2 : Nat) (W : World) : Prop where
  below : Below w.heap.size w W
  a : W.heap[pa]? = some (.cells #[.int .i64 k, .int .i64 g, .slice A la.length c] T1)
  b : W.heap[pb]? = some (.cells #[.int .i64 k', .int .i64 g', .slice A2 lb.length c2] T2)
  la : Levs W W.heap.size (.slice A la.length c) la
  lb : Levs W W.heap.size (.slice A2 lb.length c2) lb
  p : ∃ x y z, W.heap[p]? = some (.cells #[x, y, z] T1)
  q : ∃ x y z, W.heap[q]? = some (.cells #[x, y, z] T2)
theorem G2.grow {T1 T2 : TypeId} {w W W' : World} {pa pb p q : Nat} {k g k' g' : Int} {la lb : Lv} {A A2 : Option Addr} {c c2 : Nat} (h : G2 T1 T2 w pa pb p q k g k' g' la lb A A2 c c2 W) (hb : Below W.heap.size W W') : G2 T1 T2 w pa pb p q k g k' g' la lb A A2 c c2 W' := by
  obtain ⟨x, y, z, h1⟩ := h.p
  obtain ⟨x', y', z', h2⟩ := h.q
  exact ⟨thn h.below hb, (hb.block _ (lt_of h.a)).trans h.a, (hb.block _ (lt_of h.b)).trans h.b, h.la.grow hb, h.lb.grow hb, ⟨x, y, z, (hb.block _ (lt_of h1)).trans h1⟩, ⟨x', y', z', (hb.block _ (lt_of h2)).trans h2⟩⟩
theorem G2.drew' {T1 T2 : TypeId} {w W : World} {pa pb p q : Nat} {k g k' g' : Int} {la lb : Lv} {A A2 : Option Addr} {c c2 : Nat} (h : G2 T1 T2 w pa pb p q k g k' g' la lb A A2 c c2 W) : G2 T1 T2 w pa pb p q k g k' g' la lb A A2 c c2 W.drew := h.grow (Below.refl _ W).drew
theorem G2.set {T1 T2 T : TypeId} (n1 : T ≠ 75) (n2 : T ≠ 74) {w W : World} {pa pb p q r : Nat} {k g k' g' : Int} {la lb : Lv} {A A2 : Option Addr} {c c2 : Nat} (h : G2 T1 T2 w pa pb p q k g k' g' la lb A A2 c c2 W) {x y z : Value} (hr : W.heap[r]? = some (.cells #[x, y, z] T)) (x' y' z' : Value) (ha : pa ≠ r) (hb : pb ≠ r) (hw : w.heap.size ≤ r) :
    G2 T1 T2 w pa pb p q k g k' g' la lb A A2 c c2 (hs3 W r x' y' z') := by
  obtain ⟨u, v, t, h1⟩ := h.p
  obtain ⟨u', v', t', h2⟩ := h.q
  refine ⟨below3 h.below hw _ _ _, (keep3 ha _ _ _).trans h.a, (keep3 hb _ _ _).trans h.b, levs_set3 n1 n2 hr _ _ _ h.la, levs_set3 n1 n2 hr _ _ _ h.lb, ?_, ?_⟩
  · by_cases e : p = r
    · subst e
      rw [h1] at hr
      injection hr with hr
      injection hr with _ hT _
      subst hT
      exact ⟨_, _, _, set3 h1 _ _ _⟩
    · exact ⟨_, _, _, (keep3 e _ _ _).trans h1⟩
  · by_cases e : q = r
    · subst e
      rw [h2] at hr
      injection hr with hr
      injection hr with _ hT _
      subst hT
      exact ⟨_, _, _, set3 h2 _ _ _⟩
    · exact ⟨_, _, _, (keep3 e _ _ _).trans h2⟩

end Go.Proofs.Ytpdhkpgnajfobaa
end
section
/- skylightlaw10.merged: what the program and the document tell of histograms merged is the same. -/
namespace Go.Proofs.Ytpdhkpgnajfobaa
open Go.RowKit Go.Shelf Go.Proofs.Rw Go.Proofs.Lh Go.Proofs.Rf

theorem out_good {evs : List Ev} {ms : List Hm} (hg : ∀ m ∈ ms, Lh.Good m) : (outM evs ms).2.2 = [] ∨ Lh.Good (outM evs ms) := by
  unfold outM
  split
  · rename_i hb
    exact .inr (merge_made hb hg)
  · exact .inl rfl
theorem out_len {evs : List Ev} {ms : List Hm} (hg : ∀ m ∈ ms, Lh.Good m) : (outM evs ms).2.2.length ≤ 60 ∧ (∀ i, (lev (outM evs ms).2.2 i).length ≤ 1000000) ∧ tot (outM evs ms).2.2 ≤ 4503599627370496 := by
  rcases out_good hg with h | h
  · rw [h]
    exact ⟨by simp, fun i => by rw [lev_ge (by simp)]; simp, by decide⟩
  · exact ⟨Nat.le_trans h.made.len (by omega), fun i => Nat.le_trans (h.made.lev i) (by omega), h.made.small⟩

set_option maxRecDepth 100000 in
set_option maxHeartbeats 4000000 in
theorem merged_any (xs : List Hx) (ha : Asked xs []) (w : World) (A : Option Addr) (c : Nat) (h : Hs w w.heap.size (.slice A xs.length c) xs) :
    Calls Try.prog 11 #[.slice A xs.length c] w fun e w' => ∃ (A1 : Option Addr) (c1 : Nat) (A2 : Option Addr) (c2 : Nat),
      e = .returned (.tuple #[hv (outM [] (xs.map Hx.m)).1 (outM [] (xs.map Hx.m)).2.1 (.slice A1 (outM [] (xs.map Hx.m)).2.2.length c1), hv (outM [] (xs.map Hx.m)).1 (outM [] (xs.map Hx.m)).2.1 (.slice A2 (outM [] (xs.map Hx.m)).2.2.length c2), .bool true]) ∧
      Levs w' w'.heap.size (.slice A1 (outM [] (xs.map Hx.m)).2.2.length c1) (outM [] (xs.map Hx.m)).2.2 ∧ Levs w' w'.heap.size (.slice A2 (outM [] (xs.map Hx.m)).2.2.length c2) (outM [] (xs.map Hx.m)).2.2 ∧ Below w.heap.size w w' := by
  have hol := out_len (evs := []) (ms := xs.map Hx.m) fun m hm => by
    obtain ⟨x, hx, rfl⟩ := List.mem_map.1 hm
    exact ha.good x hx
  have hmg := fun (W : World) (A : Option Addr) (c : Nat) (h : Hs W W.heap.size (.slice A xs.length c) xs) => merge_any xs ha W A c h
  have hrm := fun (W : World) (A : Option Addr) (c : Nat) (h : Hs W W.heap.size (.slice A xs.length c) xs) => rmerge_any xs ha W A c h
  obtain ⟨o, ho⟩ : ∃ o, outM [] (xs.map Hx.m) = o := ⟨_, rfl⟩
  obtain ⟨C, hC⟩ : ∃ C, badN [] (xs.map Hx.m) = C := ⟨_, rfl⟩
  unfold WithP at hmg hrm
  rw [ho] at hol ⊢
  simp only [ho, hC] at hmg hrm
  obtain ⟨o1, o2, o3⟩ := o
  dsimp only at hol hmg hrm ⊢
  have hsame : ∀ (W : World) (A1 A2 : Option Addr) (c1 c2 : Nat), Levs W W.heap.size (.slice A1 o3.length c1) o3 → Levs W W.heap.size (.slice A2 o3.length c2) o3 → Calls Try.prog 30 #[.agg #[.int .i64 o1, .int .i64 o2, .slice A1 o3.length c1], .agg #[.int .i64 o1, .int .i64 o2, .slice A2 o3.length c2]] W fun e w' => e = .returned (.bool true) ∧ Below W.heap.size W w' := by
    intro W A1 A2 c1 c2 h1 h2
    have := lsame_any o1 o2 o1 o2 o3 o3 (by have := hol.1; omega) (fun i => Nat.le_trans (hol.2.1 i) (by omega)) W A1 A2 c1 c2 h1 h2
    rw [show sameB o1 o2 o1 o2 o3 o3 = true by simp [sameB]] at this
    exact this
  have hmk := fun (W : World) (j : Nat) (hj : j < xs.length) => lmade_any xs[j].k xs[j].g xs[j].A xs[j].ls.length xs[j].c W
  have hal : ∀ x ∈ xs, Levs w w.heap.size (.slice x.A x.ls.length x.c) x.ls := h.2
  have hl16 := ha.few
  obtain ⟨N, hN⟩ : ∃ N, xs.length = N := ⟨_, rfl⟩
  obtain ⟨W0, hW0, hz0, p0, q0, hB0⟩ := heap_two w (.cells #[.int .i64 0, .int .i64 0, .slice none 0 0] 32) (.cells #[.int .i64 0, .int .i64 0, .slice none 0 0] 29)
  have HH := Lib.hid h
  rw [hN] at HH hl16 ⊢
  have HN := Lib.hid hN
  have HMG := Lib.hid hmg
  have HRM := Lib.hid hrm
  have HSM := Lib.hid hsame
  have HMK := Lib.hid hmk
  have HAL := Lib.hid hal
  have HW0 := Lib.hid hW0
  have HB0 := Lib.hid hB0
  have P0 := Lib.hid p0
  have Q0 := Lib.hid q0
  have HZ0 := Lib.hid hz0
  simp only [hN] at HMG HRM
  clear hmg hrm hsame hmk hal h hN hW0 hB0 p0 q0 hz0 hol ho hC ha
  go_enter Try.func11, Try.ntmps11
  go_wp2
  rw [← HW0.out]
  go_loopw [5, 6] (fun v p wr => ∃ j : Nat, p = .int .i64 (j : Int) ∧ j ≤ N ∧ Hid (OwnH 32 wr W0.heap.size v (xs.take j)) ∧ Hid (Below W0.heap.size W0 wr)) (fun _ p _ => N - (intOf p).toNat)
  case atStart => exact ⟨0, rfl, Nat.zero_le _, Lib.hid (World.ownsRow_nil _ _ _ _), Lib.hid (Below.refl _ _)⟩
  case round =>
    obtain ⟨j, rfl, hj, HO, HBR⟩ := hrel
    obtain ⟨P, hP⟩ : ∃ P, xs.take j = P := ⟨_, rfl⟩
    rw [hP] at HO
    obtain ⟨A0, c0, rfl, -, -⟩ := own_form HO.out
    by_cases hlt : j < N
    · have hjl : j < xs.length := by rw [HN.out]; exact hlt
      have hHr := (HH.out.below HB0.out).keep fun b hb => HBR.out.block b (Nat.lt_of_lt_of_le hb HB0.out.size)
      obtain ⟨b2, off2, rfl, hb2, -, hc2⟩ := hHr.at (by omega)
      obtain ⟨e0, e1, e2, -⟩ := hc2 j hjl
      have hmj := fun W => HMK.out W j hjl
      have hnx : xs.take (j + 1) = P ++ [xs[j]] := by rw [← hP, List.take_succ_eq_append_getElem hjl]
      have hpl : P.length ≤ 16 := by rw [← hP, List.length_take]; omega
      obtain ⟨x, hx⟩ : ∃ x, xs[j] = x := ⟨_, rfl⟩
      rw [hx] at e0 e1 e2 hnx
      simp only [hx] at hmj
      have hbb : b2 < wr.heap.size := Nat.lt_of_lt_of_le hb2 (Nat.le_trans HB0.out.size HBR.out.size)
      have HMJ := Lib.hid hmj
      have HNX := Lib.hid hnx
      have HPL := Lib.hid hpl
      have HOX := Lib.hid (fun (W : World) (hb : Below wr.heap.size wr W) => own_below HO.out hb)
      clear hc2 hmj hnx hpl hP hx hjl hHr
      go_wp2_with (first
        | (go_at_call 13; refine (HMJ.out _).mono ?_; rintro e w2 ⟨rfl, hb2'⟩; have HB2 := Lib.hid hb2'; clear hb2')
        | (at_builtin; refine wpList_app (L := hxL) 32 _ 40 info_hist Try.underlying62 rfl (by decide) (by decide) _ rfl _ _ rfl W0.heap.size _ _ P [x] _ rfl (World.ownsRow.alloc (HOX.out _ HB2.out) _) rfl (lit_hist _ _ _ rfl x) (hx_one _) (by have := HPL.out; simp; omega) (by have := (HBR.out.size); have := HB2.out.size; simp; omega) ?_; intro v' w3 ho3 hg3; have HO3 := Lib.hid ho3; have HG3 := Lib.hid hg3; clear ho3 hg3))
      refine ⟨⟨j + 1, by go_num, hlt, Lib.hid ?_, Lib.hid ?_⟩, by simp [intOf]; omega⟩
      · rw [HNX.out]
        exact HO3.out
      · exact ((HBR.out.trans (HB2.out.mono HBR.out.size)).alloc (by have := HBR.out.size; have := HB2.out.size; omega) _).grown HG3.out (by have := HBR.out.size; have := HB2.out.size; simp; omega) (fun q hq => (HO.out.lt q hq).1)
    · have e : j = N := by omega
      subst e
      rw [List.take_of_length_le (by rw [HN.out]; exact Nat.le_refl _)] at hP
      subst hP
      have hbw : Below w.heap.size w wr := thn HB0.out HBR.out
      have hHx : Hs wr wr.heap.size (.slice A0 xs.length c0) xs := ⟨Lies.of_own HO.out, fun x hx => ((HAL.out x hx).grow hbw)⟩
      rw [HN.out] at hHx ⊢
      have HHX := Lib.hid hHx
      have HBW := Lib.hid hbw
      have HPR := Lib.hid ((HBR.out.block _ (lt_of P0.out)).trans P0.out)
      have HQR := Lib.hid ((HBR.out.block _ (lt_of Q0.out)).trans Q0.out)
      have HZR := Lib.hid (Nat.le_trans (Nat.le_of_eq HZ0.out.symm) HBR.out.size)
      clear hHx hbw HO HBR HMK P0 Q0 HB0 HW0 HN hlt hj HZ0
      go_upto_region 7 with (go_at_call 15; refine (HMG.out _ _ _ HHX.out).mono ?_; rintro e w2 ⟨A1, c1, rfl, hL2, hb2⟩; have HL2 := Lib.hid hL2; have HB2 := Lib.hid hb2; clear hL2 hb2)
      obtain ⟨Wa, hWa⟩ : ∃ W, w2.alloc (.cells #[.int .i64 o1, .int .i64 o2, .slice A1 o3.length c1] 32) = W := ⟨_, rfl⟩
      have ba : Below w2.heap.size w2 Wa := by rw [← hWa]; exact (Below.refl _ w2).alloc (Nat.le_refl _) _
      have pA : Wa.heap[w2.heap.size]? = some (.cells #[.int .i64 o1, .int .i64 o2, .slice A1 o3.length c1] 32) := by rw [← hWa]; exact heap_alloc_new w2 _
      rw [hWa]
      have bra := thn HB2.out ba
      have HLA := Lib.hid (HL2.out.grow ba)
      have HPA1 := Lib.hid pA
      have HBA := Lib.hid bra
      have HHX2 := Lib.hid ((HH.out.grow HBW.out).grow bra)
      have HZA := Lib.hid (Nat.le_trans HZR.out HB2.out.size)
      obtain ⟨pa, hpa⟩ : ∃ p, w2.heap.size = p := ⟨_, rfl⟩
      rw [hpa] at HPA1 HZA ⊢
      clear ba pA hWa bra HL2 HB2 hpa HMG HHX
      go_upto_region 8 with (go_at_call 32; refine (HRM.out _ _ _ HHX2.out).mono ?_; rintro e w3 ⟨A2, c2, rfl, hL3, hb3⟩; have HL3 := Lib.hid hL3; have HB3 := Lib.hid hb3; clear hL3 hb3)
      obtain ⟨Wb, hWb⟩ : ∃ W, w3.alloc (.cells #[.int .i64 o1, .int .i64 o2, .slice A2 o3.length c2] 29) = W := ⟨_, rfl⟩
      have bb : Below w3.heap.size w3 Wb := by rw [← hWb]; exact (Below.refl _ w3).alloc (Nat.le_refl _) _
      have pB : Wb.heap[w3.heap.size]? = some (.cells #[.int .i64 o1, .int .i64 o2, .slice A2 o3.length c2] 29) := by rw [← hWb]; exact heap_alloc_new w3 _
      rw [hWb]
      have brb := thn HB3.out bb
      have hg0 : G2 32 29 w pa w3.heap.size w.heap.size (w.heap.size + 1) o1 o2 o1 o2 o3 o3 A1 A2 c1 c2 Wb := by
        have h1 := (brb.block _ (lt_of HPA1.out)).trans HPA1.out
        have h2 := thn HBA.out brb
        exact ⟨thn HBW.out h2, h1, pB, HLA.out.grow brb, HL3.out.grow bb, ⟨_, _, _, (h2.block _ (lt_of HPR.out)).trans HPR.out⟩, ⟨_, _, _, (h2.block _ (lt_of HQR.out)).trans HQR.out⟩⟩
      have hzb : w.heap.size + 2 ≤ w3.heap.size := by
        have := lt_of HPA1.out
        have := HB3.out.size
        have := HZA.out
        omega
      obtain ⟨pb, hpb⟩ : ∃ p, w3.heap.size = p := ⟨_, rfl⟩
      rw [hpb] at hg0 hzb ⊢
      have HG0 := Lib.hid hg0.drew'
      have HPA := Lib.hid HZA.out
      have HPB := Lib.hid hzb
      have HSAME := Lib.hid (fun (W : World) (h1 : Levs W W.heap.size (.slice A1 o3.length c1) o3) (h2 : Levs W W.heap.size (.slice A2 o3.length c2) o3) => HSM.out W A1 A2 c1 c2 h1 h2)
      clear bb pB hWb brb hg0 hzb hpb HL3 HB3 HLA HPA1 HBA HHX2 HZA HRM HSM HBW HPR HQR HZR HAL
      refine region_all (fr := ?frA) (fun i us W => match i with
          | 0 => us 0 = .agg #[.int .i64 o1, .int .i64 o2, .slice A1 o3.length c1]
          | 1 => us 1 = .agg #[.int .i64 o1, .int .i64 o2, .slice A2 o3.length c2]
          | 2 => us 2 = .int .i64 (C : Int)
          | 3 => us 3 = .int .i64 (C : Int)
          | 4 => us 4 = .bool true
          | 5 => us 5 = .bool true
          | 6 => us 6 = .agg #[.int .i64 o1, .int .i64 o2, .slice A1 o3.length c1]
          | 7 => us 7 = .agg #[.int .i64 o1, .int .i64 o2, .slice A2 o3.length c2]
          | 8 => us 8 = .bool true
          | 9 => us 9 = .bool true
          | 10 => W.heap[w.heap.size]? = some (.cells #[.int .i64 o1, .int .i64 o2, .slice A1 o3.length c1] 32)
          | 11 => W.heap[(w.heap.size + 1)]? = some (.cells #[.int .i64 o1, .int .i64 o2, .slice A2 o3.length c2] 29)
          | 12 => us 12 = .bool true
          | _ => True) (fun j W W' => E2 10 w.heap.size (.int .i64 o1) (.int .i64 o2) (.slice A1 o3.length c1) 11 (w.heap.size + 1) (.int .i64 o1) (.int .i64 o2) (.slice A2 o3.length c2) j W W') (fun W => G2 32 29 w pa pb w.heap.size (w.heap.size + 1) o1 o2 o1 o2 o3 o3 A1 A2 c1 c2 W) rfl ?hBA ?hfrA ?hlocA ?hstA ?hG0A ?hGA ?hopA ?hendA
      case hBA => kernel_rfl
      case hfrA =>
        intro us
        simp only [List.length_cons, List.length_nil, Nat.zero_add, Nat.reduceAdd, putO, dstO]
        go_simp
        rfl
      case hlocA =>
        intro i us us' W h hf
        match i with
        | 0 =>
          have e0 := h 0 (.inl rfl)
          try dsimp only at hf ⊢
          rw [e0] at hf
          exact hf
        | 1 =>
          have e1 := h 1 (.inl rfl)
          try dsimp only at hf ⊢
          rw [e1] at hf
          exact hf
        | 2 =>
          have e2 := h 2 (.inl rfl)
          try dsimp only at hf ⊢
          rw [e2] at hf
          exact hf
        | 3 =>
          have e3 := h 3 (.inl rfl)
          try dsimp only at hf ⊢
          rw [e3] at hf
          exact hf
        | 4 =>
          have e4 := h 4 (.inl rfl)
          try dsimp only at hf ⊢
          rw [e4] at hf
          exact hf
        | 5 =>
          have e5 := h 5 (.inl rfl)
          try dsimp only at hf ⊢
          rw [e5] at hf
          exact hf
        | 6 =>
          have e6 := h 6 (.inl rfl)
          try dsimp only at hf ⊢
          rw [e6] at hf
          exact hf
        | 7 =>
          have e7 := h 7 (.inl rfl)
          try dsimp only at hf ⊢
          rw [e7] at hf
          exact hf
        | 8 =>
          have e8 := h 8 (.inl rfl)
          try dsimp only at hf ⊢
          rw [e8] at hf
          exact hf
        | 9 =>
          have e9 := h 9 (.inl rfl)
          try dsimp only at hf ⊢
          rw [e9] at hf
          exact hf
        | 10 =>
          try dsimp only at hf ⊢
          exact hf
        | 11 =>
          try dsimp only at hf ⊢
          exact hf
        | 12 =>
          have e12 := h 12 (.inl rfl)
          try dsimp only at hf ⊢
          rw [e12] at hf
          exact hf
        | n + 13 => trivial
      case hstA =>
        intro i j us W W' hne hw hi hj hE hf
        match i with
        | 0 => exact hf
        | 1 => exact hf
        | 2 => exact hf
        | 3 => exact hf
        | 4 => exact hf
        | 5 => exact hf
        | 6 => exact hf
        | 7 => exact hf
        | 8 => exact hf
        | 9 => exact hf
        | 10 =>
          rcases hE with hE | ⟨e, rfl⟩ | ⟨e, rfl⟩
          · exact (Below.block hE _ (lt_of hf)).trans hf
          · exact absurd e (Ne.symm hne)
          · exact (keep3 (by omega) _ _ _).trans hf
        | 11 =>
          rcases hE with hE | ⟨e, rfl⟩ | ⟨e, rfl⟩
          · exact (Below.block hE _ (lt_of hf)).trans hf
          · exact (keep3 (by omega) _ _ _).trans hf
          · exact absurd e (Ne.symm hne)
        | 12 => exact hf
        | n + 13 => trivial
      case hG0A =>
        exact HG0.out
      case hGA =>
        intro j W W' hE hg
        rcases hE with hE | ⟨_, rfl⟩ | ⟨_, rfl⟩
        · exact hg.grow hE
        · obtain ⟨x, y, z, hp⟩ := hg.p
          exact hg.set (by decide) (by decide) hp _ _ _ (by have := HPA.out; omega) (by have := HPB.out; omega) (Nat.le_refl _)
        · obtain ⟨x, y, z, hp⟩ := hg.q
          exact hg.set (by decide) (by decide) hp _ _ _ (by have := HPA.out; omega) (by have := HPB.out; omega) (by omega)
      case hopA =>
        intro i hi us W hg hd hq
        match i, hi with
        | 0, _ =>
          clear hd hq
          obtain ⟨qa, qb, qc⟩ := box3 hg.a
          refine all_value rfl rfl (.agg #[.int .i64 o1, .int .i64 o2, .slice A1 o3.length c1]) W (by go_simp) ?_ ?_
          · exact .inl (Grows.refl _)
          · rfl
        | 1, _ =>
          clear hd hq
          obtain ⟨qa, qb, qc⟩ := box3 hg.b
          refine all_value rfl rfl (.agg #[.int .i64 o1, .int .i64 o2, .slice A2 o3.length c2]) W (by go_simp) ?_ ?_
          · exact .inl (Grows.refl _)
          · rfl
        | 2, _ =>
          clear hd hq
          refine all_value rfl rfl (.int .i64 (C : Int)) W (by go_simp) ?_ ?_
          · exact .inl (Grows.refl _)
          · rfl
        | 3, _ =>
          clear hd hq
          refine all_value rfl rfl (.int .i64 (C : Int)) W (by go_simp) ?_ ?_
          · exact .inl (Grows.refl _)
          · rfl
        | 4, _ =>
          have h2 : us 2 = .int .i64 (C : Int) := hd 2 (by kernel_rfl)
          have h3 : us 3 = .int .i64 (C : Int) := hd 3 (by kernel_rfl)
          clear hd hq
          refine all_value rfl rfl (.bool true) W (by go_simp) ?_ ?_
          · exact .inl (Grows.refl _)
          · rfl
        | 5, _ =>
          have h4 : us 4 = .bool true := hd 4 (by kernel_rfl)
          clear hd hq
          refine all_value rfl rfl (.bool true) W (by go_simp) ?_ ?_
          · exact .inl (Grows.refl _)
          · rfl
        | 6, _ =>
          have h5 : us 5 = .bool true := hd 5 (by kernel_rfl)
          clear hd hq
          rw [h5]
          obtain ⟨qa, qb, qc⟩ := box3 hg.a
          refine all_value rfl rfl (.agg #[.int .i64 o1, .int .i64 o2, .slice A1 o3.length c1]) W (by go_simp) ?_ ?_
          · exact .inl (Grows.refl _)
          · rfl
        | 7, _ =>
          have h5 : us 5 = .bool true := hd 5 (by kernel_rfl)
          clear hd hq
          rw [h5]
          obtain ⟨qa, qb, qc⟩ := box3 hg.b
          refine all_value rfl rfl (.agg #[.int .i64 o1, .int .i64 o2, .slice A2 o3.length c2]) W (by go_simp) ?_ ?_
          · exact .inl (Grows.refl _)
          · rfl
        | 8, _ =>
          have h6 : us 6 = .agg #[.int .i64 o1, .int .i64 o2, .slice A1 o3.length c1] := hd 6 (by kernel_rfl)
          have h7 : us 7 = .agg #[.int .i64 o1, .int .i64 o2, .slice A2 o3.length c2] := hd 7 (by kernel_rfl)
          have h5 : us 5 = .bool true := hd 5 (by kernel_rfl)
          clear hd hq
          rw [h5]
          refine all_call rfl rfl 30 #[.agg #[.int .i64 o1, .int .i64 o2, .slice A1 o3.length c1], .agg #[.int .i64 o1, .int .i64 o2, .slice A2 o3.length c2]] (by go_simp) ?_
          exact (HSAME.out W hg.la hg.lb).mono fun _ W' ⟨he, hb⟩ => ⟨_, he, .inl hb, rfl⟩
        | 9, _ =>
          have h5 : us 5 = .bool true := hd 5 (by kernel_rfl)
          have h8 : us 8 = .bool true := hd 8 (by kernel_rfl)
          clear hd hq
          refine all_value rfl rfl (.bool true) W (by go_simp) ?_ ?_
          · exact .inl (Grows.refl _)
          · rfl
        | 10, _ =>
          have h0 : us 0 = .agg #[.int .i64 o1, .int .i64 o2, .slice A1 o3.length c1] := hd 0 (by kernel_rfl)
          clear hd hq
          obtain ⟨x0, x1, x2, hp⟩ := hg.p
          obtain ⟨q0, q1, q2⟩ := box3 hp
          have f0 : ∀ i, W.frozen? ⟨w.heap.size, i, none⟩ = false := fun i => by simp [World.frozen?, hp]
          have HP := Lib.hid hp
          have lp := lt_of hp
          clear hp
          refine all_skip rfl rfl (hs3 W w.heap.size (.int .i64 o1) (.int .i64 o2) (.slice A1 o3.length c1)) (by go_simp) ?_ ?_
          · exact .inr (.inl ⟨rfl, rfl⟩)
          · exact set3 HP.out _ _ _
        | 11, _ =>
          have h1 : us 1 = .agg #[.int .i64 o1, .int .i64 o2, .slice A2 o3.length c2] := hd 1 (by kernel_rfl)
          clear hd hq
          obtain ⟨x0, x1, x2, hp⟩ := hg.q
          obtain ⟨q0, q1, q2⟩ := box3 hp
          have f0 : ∀ i, W.frozen? ⟨(w.heap.size + 1), i, none⟩ = false := fun i => by simp [World.frozen?, hp]
          have HP := Lib.hid hp
          have lp := lt_of hp
          clear hp
          refine all_skip rfl rfl (hs3 W (w.heap.size + 1) (.int .i64 o1) (.int .i64 o2) (.slice A2 o3.length c2)) (by go_simp) ?_ ?_
          · exact .inr (.inr ⟨rfl, rfl⟩)
          · exact set3 HP.out _ _ _
        | 12, _ =>
          have h9 : us 9 = .bool true := hd 9 (by kernel_rfl)
          clear hd hq
          refine all_value rfl rfl (.bool true) W (by go_simp) ?_ ?_
          · exact .inl (Grows.refl _)
          · rfl
        | n + 13, h => exact absurd h (by simp)
      case hendA =>
        intro us W hg hf
        have h9 : us 9 = .bool true := hf 9 (by simp)
        have h10 : W.heap[w.heap.size]? = some (.cells #[.int .i64 o1, .int .i64 o2, .slice A1 o3.length c1] 32) := hf 10 (by simp)
        have h11 : W.heap[(w.heap.size + 1)]? = some (.cells #[.int .i64 o1, .int .i64 o2, .slice A2 o3.length c2] 29) := hf 11 (by simp)
        have h12 : us 12 = .bool true := hf 12 (by simp)
        clear hf
        rw [h12]
        obtain ⟨t0, t1, t2⟩ := box3 h10
        obtain ⟨r0, r1, r2⟩ := box3 h11
        go_wp2
        refine bodyPost_ret (v := .tuple #[hv o1 o2 (.slice A1 o3.length c1), hv o1 o2 (.slice A2 o3.length c2), .bool true]) (by simp [results, Try.results11, go_sem, t0, t1, t2, r0, r1, r2]) rfl ⟨A1, c1, A2, c2, rfl, hg.la, hg.lb, hg.below⟩

end Go.Proofs.Ytpdhkpgnajfobaa
end
section
/- Histograms that were made, as a merge is asked of them. -/
namespace Go.Proofs.Lh
open Go.Proofs.Lm (Sp)
theorem good_play (k : Nat) (h2 : 2 ≤ k) (h1 : k ≤ 1024) (ds : List Sp) (j : Nat) (hj : j ≤ ds.length) (hj2 : j ≤ 1000000) (g : Int) (g0 : 0 ≤ g) (g4 : g ≤ 4) : Good ((k : Int), g, (play k ds j).2) := by
  refine ⟨by show (0 : Int) ≤ (k : Int); omega, by rw [Int.toNat_natCast]; exact play_made h2 h1 ds j hj, fun b hb => ?_, g0, g4⟩
  obtain ⟨us, hr, _, hu, _⟩ := play_rep k ds j hj
  have h3 := hu _ (rep_mem hr b hb)
  have h4 := play_tick k ds j hj
  omega
end Go.Proofs.Lh
namespace Go.Proofs.Ytpdhkpgnajfobaa
open Go.RowKit Go.Shelf Go.Proofs.Rw Go.Proofs.Lh Go.Proofs.Rf
theorem done_le (ds : List Sp) : doneN ds ≤ ds.length ∧ doneN ds ≤ 30 := by unfold doneN; omega
/-- skylightref06.Made, where only so much is told of it as a merge asks. -/
theorem gmade_any (k : Int) (hk : (Lit.int IntKind.i64 k).wf = true) (ds : List Sp) (w : World) (Ad : Option Addr) (nd cd : Nat) (hD : Deeds w Ad nd cd ds) :
    Calls Try.prog 10 #[.int .i64 k, .slice Ad nd cd] w fun e w' => ∃ A c, e = .returned (hv (kOf k) 0 (.slice A (play (kOf k) ds (doneN ds)).2.length c)) ∧ Levs w' w'.heap.size (.slice A (play (kOf k) ds (doneN ds)).2.length c) (play (kOf k) ds (doneN ds)).2 ∧ Below w.heap.size w w' := by
  obtain ⟨b0, b1⟩ := bounds_i64 hk
  exact rmade_any k b0 (by omega) ds w Ad nd cd hD
/-- A row of histograms of the call's own, that were made. -/
structure Row (T : TypeId) (base : Nat) (v : Value) (xs : List Hx) (W : World) : Prop where
  own : OwnH T W base v xs
  levs : ∀ x ∈ xs, Levs W W.heap.size (.slice x.A x.ls.length x.c) x.ls
  good : ∀ x ∈ xs, Lh.Good x.m
theorem Row.nil (T : TypeId) (base : Nat) (W : World) : Row T base (.slice none 0 0) [] W := ⟨World.ownsRow_nil _ _ _ _, by simp, by simp⟩
theorem Row.grow {T : TypeId} {base : Nat} {v : Value} {xs : List Hx} {W W' : World} (h : Row T base v xs W) (hb : Below W.heap.size W W') : Row T base v xs W' := ⟨own_below h.own hb, fun x hx => (h.levs x hx).grow hb, h.good⟩
theorem Row.hs {T : TypeId} {base : Nat} {A : Option Addr} {c : Nat} {xs : List Hx} {W : World} (h : Row T base (.slice A xs.length c) xs W) : Hs W W.heap.size (.slice A xs.length c) xs := ⟨Lies.of_own h.own, h.levs⟩
/-- Another block is written, of another type than levels and rows. -/
theorem Row.off {T T' : TypeId} {base : Nat} {v : Value} {xs : List Hx} {W W' : World} {r : Nat} (h : Row T base v xs W) (hg : W.grownBy W' (some r)) (ht : Ty W T' r) (n1 : T' ≠ 75) (n2 : T' ≠ 74) (hr : v.ownBlock ≠ some r) : Row T base v xs W' :=
  ⟨World.ownsRow.kept h.own hg (.inr hr), fun x hx => (h.levs x hx).other hg fun b e => by
    cases e
    exact ⟨fun h => Ty.ne ht h n1 rfl, fun h => Ty.ne ht h n2 rfl⟩, h.good⟩
/-- One more is appended: behind the literal, and the append. -/
theorem Row.snoc {T : TypeId} {base : Nat} {v v' : Value} {xs : List Hx} {W W1 W2 : World} {x : Hx} (h : Row T base v xs W) (hb : Below W.heap.size W W1) (ho : OwnH T W2 base v' (xs ++ [x])) (hg : W1.grownBy W2 v.ownBlock) (hT : T ≠ 75) (hT2 : T ≠ 74) (hx : Levs W W.heap.size (.slice x.A x.ls.length x.c) x.ls) (hgx : Lh.Good x.m) : Row T base v' (xs ++ [x]) W2 := by
  have hty : ∀ b, v.ownBlock = some b → Ty W1 T b := by
    intro b hb'
    have h1 := own_below h.own hb
    rcases h1.2 with ⟨e, _⟩ | ⟨g, cap, cur, e, _, hgb, _⟩
    · rw [e] at hb'; cases hb'
    · rw [e] at hb'
      injection hb' with hb'
      subst hb'
      exact ⟨_, _, hgb⟩
  have key : ∀ y : Hx, Levs W W.heap.size (.slice y.A y.ls.length y.c) y.ls → Levs W2 W2.heap.size (.slice y.A y.ls.length y.c) y.ls := fun y hy => (hy.grow hb).other hg fun b e => by
    have ht := hty b e
    exact ⟨fun h => Ty.ne ht h hT rfl, fun h => Ty.ne ht h hT2 rfl⟩
  refine ⟨ho, fun y hy => ?_, fun y hy => ?_⟩
  · rcases List.mem_append.1 hy with hy | hy
    · exact key y (h.levs y hy)
    · rw [List.mem_singleton.1 hy]
      exact key x hx
  · rcases List.mem_append.1 hy with hy | hy
    · exact h.good y hy
    · rw [List.mem_singleton.1 hy]
      exact hgx

end Go.Proofs.Ytpdhkpgnajfobaa
end
section
/- Plain mathematics: an event by itself is as a histogram of its weight. -/
namespace Go.Proofs.Lh
open Go.Proofs.Lm (Sp)
theorem mergeL_units (k : Nat) {a b : List Sp} (h : unitsOf a = unitsOf b) : mergeL k a = mergeL k b := by unfold mergeL; rw [h]
theorem units_one (k : Nat) (t n : Nat) : unitsOf (lumpsOf 0 (addW k [] t n)) = List.replicate n t := by
  have hr : Rep 0 (addW k [] t n) (List.replicate n t) := by
    have := rep_histOf k ([] ++ List.replicate n t)
    rw [← histOf_add, histOf_nil, List.nil_append] at this
    exact this
  have hl : (unitsOf (lumpsOf 0 (addW k [] t n))).length = n := by
    rw [lumps_len, tot_eq]
    have e : addW k [] t n = histOf k ([] ++ List.replicate n t) := by rw [← histOf_add, histOf_nil]
    rw [e, tot_histOf]
    simp
  rw [List.eq_replicate_iff]
  refine ⟨hl, fun u hu => ?_⟩
  obtain ⟨x, hx, rfl⟩ := units_mem hu
  obtain ⟨b, hb, e⟩ := lumps_mem hx
  rw [e]
  exact List.eq_of_mem_replicate (rep_mem hr b hb)
theorem tot_one (k t n : Nat) : tot (addW k [] t n) = n := by
  have e : addW k [] t n = histOf k ([] ++ List.replicate n t) := by rw [← histOf_add, histOf_nil]
  rw [e, tot_histOf]
  simp
theorem code_one {t n : Nat} (hn : 1 ≤ n) (ht : t ≤ 9223372036854775807) (hs : n ≤ 4503599627370496) : code [] t n = 0 := by
  have e1 : tot ([] : Lv) = 0 := rfl
  have e2 : (lastOf ([] : Lv)).getD 0 = 0 := rfl
  unfold code
  rw [if_neg (by omega), if_neg (by rw [e2]; omega), if_neg (by rw [e1]; omega)]
theorem made_one {k t n : Nat} (h2 : 2 ≤ k) (h1 : k ≤ 1024) (hn : 1 ≤ n) (ht : t ≤ 9223372036854775807) (hs : n ≤ 4503599627370496) : Good ((k : Int), 0, addW k [] t n) := by
  refine ⟨by show (0 : Int) ≤ (k : Int); omega, by rw [Int.toNat_natCast]; exact (Made.nil h2 h1).add (code_one hn ht hs), fun b hb => ?_, by show (0 : Int) ≤ 0; omega, by show (0 : Int) ≤ 4; omega⟩
  have hr : Rep 0 (addW k [] t n) (List.replicate n t) := by
    have := rep_histOf k ([] ++ List.replicate n t)
    rw [← histOf_add, histOf_nil, List.nil_append] at this
    exact this
  have := List.eq_of_mem_replicate (rep_mem hr b hb)
  omega
/-- An event by itself. -/
theorem with_one {e : Ev} {ms : List Hm} {k : Nat} (hb : badN [e] ms = 0) (hk : kOne ms = (k : Int)) :
    badN [] (ms ++ [((k : Int), 0, addW k [] e.1 e.2.2)]) = 0 ∧ outM [] (ms ++ [((k : Int), 0, addW k [] e.1 e.2.2)]) = outM [e] ms ∧ 1 ≤ e.2.2 ∧ e.1 ≤ 9223372036854775807 ∧ e.2.2 ≤ 4503599627370496 := by
  obtain ⟨h0, h1, h2, h3, h4, h5⟩ := badN_zero hb
  have hn : 1 ≤ e.2.2 := by
    unfold lightB at h1
    simp at h1
    omega
  have ht : e.1 ≤ 9223372036854775807 := by
    unfold earlyB at h4
    simp at h4
    exact h4
  have hE : totE [e] = e.2.2 := by simp [totE]
  have hM : totM (ms ++ [((k : Int), 0, addW k [] e.1 e.2.2)]) = totM ms + e.2.2 := by
    unfold totM
    rw [List.map_append, List.sum_append]
    simp [tot_one]
  have hK : kOne (ms ++ [((k : Int), 0, addW k [] e.1 e.2.2)]) = kOne ms := by
    cases ms with
    | nil => simp at h0
    | cons m ms => rfl
  have hG : gmax (ms ++ [((k : Int), 0, addW k [] e.1 e.2.2)]) = gmax ms := by
    have h0 := gmax_nonneg ms
    unfold gmax at *
    rw [List.foldl_append, List.foldl_cons, List.foldl_nil]
    show max _ (0 : Int) = _
    omega
  have hA : alikeB (ms ++ [((k : Int), 0, addW k [] e.1 e.2.2)]) = true := by
    unfold alikeB at *
    rw [List.all_append, hK, h2]
    simp [hk]
  have hbb : badN [] (ms ++ [((k : Int), 0, addW k [] e.1 e.2.2)]) = 0 := by
    unfold badN
    rw [hA, hG, hM, show lightB [] = true from rfl, show earlyB [] = true from rfl, show totE [] = 0 from rfl]
    rw [if_neg (by simp), if_neg (by simp), if_neg (by omega), if_neg (by simp), if_neg (by omega)]
  refine ⟨hbb, ?_, hn, ht, by omega⟩
  unfold outM
  rw [if_pos hbb, if_pos hb, hK, hG]
  congr 2
  refine mergeL_units _ ?_
  unfold lumpAll
  rw [List.map_nil, List.append_nil, List.flatMap_append, units_app, units_app]
  congr 1
  simp only [List.flatMap_cons, List.flatMap_nil, List.append_nil, List.map_cons, List.map_nil]
  rw [units_one]
  simp [unitsOf, lumpE]
end Go.Proofs.Lh
namespace Go.Proofs.Ytpdhkpgnajfobaa
open Go.RowKit Go.Shelf Go.Proofs.Rw Go.Proofs.Lh Go.Proofs.Rf
/-- What a row's own block holds. -/
theorem Row.ty {T : TypeId} {base : Nat} {v : Value} {xs : List Hx} {W : World} (h : Row T base v xs W) : ∀ b, v.ownBlock = some b → Ty W T b := by
  intro b hb'
  rcases h.own.2 with ⟨e, _⟩ | ⟨g, cap, cur, e, _, hgb, _⟩
  · rw [e] at hb'; cases hb'
  · rw [e] at hb'
    injection hb' with hb'
    subst hb'
    exact ⟨_, _, hgb⟩
/-- A block of another type is written, or none. -/
theorem Row.other {T T' : TypeId} {base : Nat} {v : Value} {xs : List Hx} {W W' : World} {row : Option Nat} (h : Row T base v xs W) (hg : W.grownBy W' row) (ht : ∀ b, row = some b → Ty W T' b) (n0 : T' ≠ T) (n1 : T' ≠ 75) (n2 : T' ≠ 74) : Row T base v xs W' := by
  refine ⟨World.ownsRow.kept h.own hg ?_, fun x hx => (h.levs x hx).other hg fun b e => ⟨fun k => Ty.ne (ht b e) k n1 rfl, fun k => Ty.ne (ht b e) k n2 rfl⟩, h.good⟩
  cases hv : v.ownBlock with
  | none => exact .inl rfl
  | some b =>
    refine .inr fun e => ?_
    exact Ty.ne (ht b e.symm) (h.ty b hv) n0 rfl

end Go.Proofs.Ytpdhkpgnajfobaa
end
