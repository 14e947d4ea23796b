/- The law's awake. · What stays true of a buffer to which events come in turn of their keys: plain mathematics for BufferTurn. -/
import Derived.Test.YtienfdnlekfmmaaJ15
import Derived.Test.YtienfdnlekfmmaaJ14
section
/- The law's awake. -/
namespace Go.Proofs.Ytienfdnlekfmmaa
set_option linter.unusedVariables false
open Go.RowKit Go.Shelf Go.Proofs.Rw Go.Proofs.Lh Go.Proofs.Bu

theorem awk_push0 (W : World) (A : Option Addr) (c : Nat) (h : Evs W A c []) :
    Calls Try.prog 15 #[.agg #[.int .u64 2, .int .i64 9, .int .u64 0, .int .u64 0, .slice A 0 c], .agg #[.int .u64 5, .int .u64 0, .int .u64 1]] W fun r w' => ∃ A1 c1 A2 c2, r = .returned (.tuple #[.agg #[.int .u64 2, .int .i64 9, .int .u64 5, .int .u64 3, .slice A1 1 c1], .slice A2 0 c2, .int .i64 0]) ∧ Evs w' A1 c1 [(5, 0, 1)] ∧ Evs w' A2 c2 [] ∧ Below W.heap.size W w' := by
  have h0 := bpush_c ⟨2, 9, 0, 0, []⟩ ⟨by decide, by decide, by decide, by decide, by decide, by unfold Sd; decide⟩ (by decide) (5, 0, 1) W A c h
  rw [show pushR ⟨2, 9, 0, 0, []⟩ (5, 0, 1) = (⟨2, 9, 5, 3, [(5, 0, 1)]⟩, []) by rfl, show pushC ⟨2, 9, 0, 0, []⟩ (5, 0, 1) = 0 by decide] at h0
  exact h0.mono fun _ _ ⟨A1, c1, A2, c2, h1, h2, h3, h4, _⟩ => ⟨A1, c1, A2, c2, h1, h2, h3, h4⟩
theorem awk_push1 (W : World) (A : Option Addr) (c : Nat) (h : Evs W A c [(5, 0, 1)]) :
    Calls Try.prog 15 #[.agg #[.int .u64 2, .int .i64 9, .int .u64 5, .int .u64 3, .slice A 1 c], .agg #[.int .u64 4, .int .u64 0, .int .u64 2]] W fun r w' => ∃ A1 c1 A2 c2, r = .returned (.tuple #[.agg #[.int .u64 2, .int .i64 9, .int .u64 5, .int .u64 3, .slice A1 2 c1], .slice A2 0 c2, .int .i64 0]) ∧ Evs w' A1 c1 [(4, 0, 2), (5, 0, 1)] ∧ Evs w' A2 c2 [] ∧ Below W.heap.size W w' := by
  have h0 := bpush_c ⟨2, 9, 5, 3, [(5, 0, 1)]⟩ ⟨by decide, by decide, by decide, by decide, by decide, by unfold Sd; decide⟩ (by decide) (4, 0, 2) W A c h
  rw [show pushR ⟨2, 9, 5, 3, [(5, 0, 1)]⟩ (4, 0, 2) = (⟨2, 9, 5, 3, [(4, 0, 2), (5, 0, 1)]⟩, []) by rfl, show pushC ⟨2, 9, 5, 3, [(5, 0, 1)]⟩ (4, 0, 2) = 0 by decide] at h0
  exact h0.mono fun _ _ ⟨A1, c1, A2, c2, h1, h2, h3, h4, _⟩ => ⟨A1, c1, A2, c2, h1, h2, h3, h4⟩
theorem awk_push2 (W : World) (A : Option Addr) (c : Nat) (h : Evs W A c [(4, 0, 2), (5, 0, 1)]) :
    Calls Try.prog 15 #[.agg #[.int .u64 2, .int .i64 9, .int .u64 5, .int .u64 3, .slice A 2 c], .agg #[.int .u64 8, .int .u64 0, .int .u64 3]] W fun r w' => ∃ A1 c1 A2 c2, r = .returned (.tuple #[.agg #[.int .u64 2, .int .i64 9, .int .u64 8, .int .u64 6, .slice A1 1 c1], .slice A2 2 c2, .int .i64 0]) ∧ Evs w' A1 c1 [(8, 0, 3)] ∧ Evs w' A2 c2 [(4, 0, 2), (5, 0, 1)] ∧ Below W.heap.size W w' := by
  have h0 := bpush_c ⟨2, 9, 5, 3, [(4, 0, 2), (5, 0, 1)]⟩ ⟨by decide, by decide, by decide, by decide, by decide, by unfold Sd; decide⟩ (by decide) (8, 0, 3) W A c h
  rw [show pushR ⟨2, 9, 5, 3, [(4, 0, 2), (5, 0, 1)]⟩ (8, 0, 3) = (⟨2, 9, 8, 6, [(8, 0, 3)]⟩, [(4, 0, 2), (5, 0, 1)]) by rfl, show pushC ⟨2, 9, 5, 3, [(4, 0, 2), (5, 0, 1)]⟩ (8, 0, 3) = 0 by decide] at h0
  exact h0.mono fun _ _ ⟨A1, c1, A2, c2, h1, h2, h3, h4, _⟩ => ⟨A1, c1, A2, c2, h1, h2, h3, h4⟩
theorem awk_push3 (W : World) (A : Option Addr) (c : Nat) (h : Evs W A c [(8, 0, 3)]) :
    Calls Try.prog 15 #[.agg #[.int .u64 2, .int .i64 9, .int .u64 8, .int .u64 6, .slice A 1 c], .agg #[.int .u64 5, .int .u64 0, .int .u64 1]] W fun r w' => r = .returned (.tuple #[.agg #[.int .u64 0, .int .i64 0, .int .u64 0, .int .u64 0, .slice none 0 0], .slice none 0 0, .int .i64 4]) ∧ Below W.heap.size W w' :=
  bpush_bad ⟨2, 9, 8, 6, [(8, 0, 3)]⟩ (5, 0, 1) 4 (by decide) (by decide) W A c
theorem awk_weight (W : World) (A : Option Addr) (c : Nat) (h : Evs W A c [(8, 0, 3)]) :
    Calls Try.prog 17 #[.agg #[.int .u64 2, .int .i64 9, .int .u64 8, .int .u64 6, .slice A 1 c]] W fun r w' => r = .returned (.int .u64 3) ∧ Below W.heap.size W w' :=
  bweight_any 2 9 8 6 [(8, 0, 3)] (by decide) W A c h.lies
theorem awk_may (W : World) (A : Option Addr) (c : Nat) (h : Evs W A c [(8, 0, 3)]) :
    Calls Try.prog 20 #[.agg #[.int .u64 2, .int .i64 9, .int .u64 8, .int .u64 6, .slice A 1 c]] W fun r w' => r = .returned (.int .i64 0) ∧ Below W.heap.size W w' :=
  bmay_any 2 9 8 6 (by decide) [(8, 0, 3)] (by decide) W A c h.lies
theorem awk_new (W : World) : Calls Try.prog 10 #[.int .u64 2, .int .i64 9] W fun r w' => r = .returned (.tuple #[.agg #[.int .u64 2, .int .i64 9, .int .u64 0, .int .u64 0, .slice none 0 0], .int .i64 0]) ∧ Below W.heap.size W w' := by
  have h := bnew_any 2 9 W
  rw [newV_yes (by decide)] at h
  exact h

set_option maxRecDepth 100000 in
set_option maxHeartbeats 4000000 in
theorem bawake_any (w : World) : Calls Try.prog 9 #[] w fun e w' => e = .returned (.bool true) ∧ Below w.heap.size w w' := by
  go_enter Try.func9, Try.ntmps9
  go_upto_region 2 with (go_at_call 10; (with_reducible refine (awk_new _).mono ?_); rintro e w1 ⟨rfl, hb⟩; have HB1 := Lib.hid hb; clear hb)
  obtain ⟨V1, hV1⟩ : ∃ W, w1.alloc (.cells #[.int .u64 2, .int .i64 9, .int .u64 0, .int .u64 0, .slice none 0 0] 27) = W := ⟨_, rfl⟩
  have bV1 : Below w1.heap.size w1 V1 := by rw [← hV1]; exact (Below.refl _ w1).alloc (Nat.le_refl _) _
  have pV1 : V1.heap[w1.heap.size]? = some (.cells #[.int .u64 2, .int .i64 9, .int .u64 0, .int .u64 0, .slice none 0 0] 27) := by rw [← hV1]; exact heap_alloc_new w1 _
  rw [hV1]
  obtain ⟨q0, hq0⟩ : ∃ q, w1.heap.size = q := ⟨_, rfl⟩
  rw [hq0] at pV1 ⊢
  obtain ⟨⟨x0, x1, x2, x3, x4⟩, -⟩ := box5 pV1
  have lV1 := lt_of pV1
  have PV1 := Lib.hid pV1
  have eV1 : Evs V1 none 0 [] := Evs.none _
  have HBV1 := Lib.hid (thn HB1.out bV1)
  have EV0 := Lib.hid eV1
  clear hV1 bV1 pV1 eV1 hq0
  go_upto_region 3 with (go_at_call 15; (with_reducible refine (awk_push0 _ _ _ EV0.out).mono ?_); rintro e w2 ⟨A1, c1, B1, d1, rfl, h1, h2, hb⟩; have HE1 := Lib.hid h1; have HM1 := Lib.hid h2; have HB2 := Lib.hid (thn HBV1.out hb); clear h1 h2 hb)
  clear x0 x1 x2 x3 x4
  obtain ⟨V2, hV2⟩ : ∃ W, w2.alloc (.cells #[.int .u64 2, .int .i64 9, .int .u64 5, .int .u64 3, .slice A1 1 c1] 27) = W := ⟨_, rfl⟩
  have bV2 : Below w2.heap.size w2 V2 := by rw [← hV2]; exact (Below.refl _ w2).alloc (Nat.le_refl _) _
  have pV2 : V2.heap[w2.heap.size]? = some (.cells #[.int .u64 2, .int .i64 9, .int .u64 5, .int .u64 3, .slice A1 1 c1] 27) := by rw [← hV2]; exact heap_alloc_new w2 _
  rw [hV2]
  obtain ⟨q1, hq1⟩ : ∃ q, w2.heap.size = q := ⟨_, rfl⟩
  rw [hq1] at pV2 ⊢
  obtain ⟨⟨x0, x1, x2, x3, x4⟩, -⟩ := box5 pV2
  have lV2 := lt_of pV2
  have PV2 := Lib.hid pV2
  have eV2 := HE1.out.grow bV2
  have HBV2 := Lib.hid (thn HB2.out bV2)
  have EV1 := Lib.hid eV2
  clear hV2 bV2 pV2 eV2 hq1
  go_upto_region 4 with (go_at_call 15; (with_reducible refine (awk_push1 _ _ _ EV1.out).mono ?_); rintro e w3 ⟨A2, c2, B2, d2, rfl, h1, h2, hb⟩; have HE2 := Lib.hid h1; have HM2 := Lib.hid h2; have HB3 := Lib.hid (thn HBV2.out hb); clear h1 h2 hb)
  clear x0 x1 x2 x3 x4
  obtain ⟨V3, hV3⟩ : ∃ W, w3.alloc (.cells #[.int .u64 2, .int .i64 9, .int .u64 5, .int .u64 3, .slice A2 2 c2] 27) = W := ⟨_, rfl⟩
  have bV3 : Below w3.heap.size w3 V3 := by rw [← hV3]; exact (Below.refl _ w3).alloc (Nat.le_refl _) _
  have pV3 : V3.heap[w3.heap.size]? = some (.cells #[.int .u64 2, .int .i64 9, .int .u64 5, .int .u64 3, .slice A2 2 c2] 27) := by rw [← hV3]; exact heap_alloc_new w3 _
  rw [hV3]
  obtain ⟨q2, hq2⟩ : ∃ q, w3.heap.size = q := ⟨_, rfl⟩
  rw [hq2] at pV3 ⊢
  obtain ⟨⟨x0, x1, x2, x3, x4⟩, -⟩ := box5 pV3
  have lV3 := lt_of pV3
  have PV3 := Lib.hid pV3
  have eV3 := HE2.out.grow bV3
  have HBV3 := Lib.hid (thn HB3.out bV3)
  have EV2 := Lib.hid eV3
  clear hV3 bV3 pV3 eV3 hq2
  go_upto_region 5 with (go_at_call 15; (with_reducible refine (awk_push2 _ _ _ EV2.out).mono ?_); rintro e w4 ⟨A3, c3, B3, d3, rfl, h1, h2, hb⟩; have HE3 := Lib.hid h1; have HM3 := Lib.hid h2; have HB4 := Lib.hid (thn HBV3.out hb); clear h1 h2 hb)
  clear x0 x1 x2 x3 x4
  obtain ⟨V4, hV4⟩ : ∃ W, w4.alloc (.cells #[.int .u64 2, .int .i64 9, .int .u64 8, .int .u64 6, .slice A3 1 c3] 27) = W := ⟨_, rfl⟩
  have bV4 : Below w4.heap.size w4 V4 := by rw [← hV4]; exact (Below.refl _ w4).alloc (Nat.le_refl _) _
  have pV4 : V4.heap[w4.heap.size]? = some (.cells #[.int .u64 2, .int .i64 9, .int .u64 8, .int .u64 6, .slice A3 1 c3] 27) := by rw [← hV4]; exact heap_alloc_new w4 _
  rw [hV4]
  obtain ⟨q3, hq3⟩ : ∃ q, w4.heap.size = q := ⟨_, rfl⟩
  rw [hq3] at pV4 ⊢
  obtain ⟨⟨x0, x1, x2, x3, x4⟩, -⟩ := box5 pV4
  have lV4 := lt_of pV4
  have PV4 := Lib.hid pV4
  have eV4 := HE3.out.grow bV4
  have HBV4 := Lib.hid (thn HB4.out bV4)
  have mV4 := HM3.out.grow bV4
  have MV := Lib.hid mV4
  clear mV4
  have EV3 := Lib.hid eV4
  clear hV4 bV4 pV4 eV4 hq3
  go_upto_region 6 with (go_at_call 15; (with_reducible refine (awk_push3 _ _ _ EV3.out).mono ?_); rintro e w5 ⟨rfl, hb⟩; have HE4 := Lib.hid (EV3.out.grow hb); have HM4 := Lib.hid (MV.out.grow hb); have HP4 := Lib.hid ((hb.block _ lV4).trans PV4.out); have HB5 := Lib.hid (thn HBV4.out hb); clear hb)
  clear x0 x1 x2 x3 x4
  obtain ⟨V5, hV5⟩ : ∃ W, w5.alloc (.cells #[.int .u64 0, .int .i64 0, .int .u64 0, .int .u64 0, .slice none 0 0] 27) = W := ⟨_, rfl⟩
  have b5 : Below w5.heap.size w5 V5 := by rw [← hV5]; exact (Below.refl _ w5).alloc (Nat.le_refl _) _
  have p5 := (b5.block _ (lt_of HP4.out)).trans HP4.out
  obtain ⟨⟨x0, x1, x2, x3, x4⟩, -⟩ := box5 p5
  have l5 := lt_of p5
  obtain ⟨bb, off, rfl, hbb, -, hc⟩ := ev_at (HM4.out.grow b5).lies (by decide)
  obtain ⟨y0, -, -⟩ := hc 0 (by decide)
  simp only [Nat.zero_mul, Nat.add_zero] at y0
  have y0' : V5.cell? ⟨bb, off, none⟩ = some (.int .u64 4) := y0
  have P5 := Lib.hid p5
  have E5 := Lib.hid (HE4.out.grow b5)
  have B5 := Lib.hid (thn HB5.out b5)
  rw [hV5]
  clear hV5 b5 p5 hc y0
  go_wp2_with (first
    | (go_at_call 17; (with_reducible refine (awk_weight _ _ _ E5.out).mono ?_); rintro e w6 ⟨rfl, hb⟩; have p6 := (hb.block _ l5).trans P5.out; obtain ⟨⟨z0, z1, z2, z3, z4⟩, -⟩ := box5 p6; have l6 := lt_of p6; have E6 := Lib.hid (E5.out.grow hb); have B6 := Lib.hid (thn B5.out hb); clear hb p6)
    | (go_at_call 20; (with_reducible refine (awk_may _ _ _ E6.out).mono ?_); rintro e w7 ⟨rfl, hb⟩; have B7 := Lib.hid (thn B6.out hb); clear hb))
  go_ret
  exact ⟨rfl, B7.out⟩
end Go.Proofs.Ytienfdnlekfmmaa
end
section
/- What stays true of a buffer to which events come in turn of their keys: plain mathematics for BufferTurn. -/
namespace Go.Proofs.Ytienfdnlekfmmaa
set_option linter.unusedVariables false
open Go.RowKit Go.Shelf Go.Proofs.Rw Go.Proofs.Lh Go.Proofs.Bu

/-- Behind n events: what went out, and what waits, is in turn. -/
structure TI (n : Nat) (b : Bf) (o : List Ev) : Prop where
  may : MayB b
  tn : Tn (o ++ b.evs)
  fr : ∀ x ∈ o, x.1 ≤ b.front
  key : ∀ x ∈ o ++ b.evs, x.2.1 < n
  len : (o ++ b.evs).length ≤ n
  sum : Bu.wsum (o ++ b.evs) ≤ 100 * n
theorem ti_start {late room : Nat} (h : late ≤ 4611686018427387904) (h1 : 1 ≤ room) (h2 : room ≤ 1024) : TI 0 (freshB late room) [] :=
  ⟨fresh_may h h1 h2, List.Pairwise.nil, fun x hx => (by cases hx), fun x hx => (by cases hx), Nat.le_refl _, Nat.le_refl _⟩
theorem ti_skip {n : Nat} {b : Bf} {o : List Ev} (h : TI n b o) : TI (n + 1) b o := ⟨h.may, h.tn, h.fr, fun x hx => by have := h.key x hx; omega, by have := h.len; omega, by have := h.sum; omega⟩
theorem ins_perm_len (e : Ev) (l : List Ev) : (insL e l).length = l.length + 1 := ins_len e l
theorem ti_push {n : Nat} {b : Bf} {o : List Ev} (h : TI n b o) (hn : n ≤ 90) {t : Nat} (hC : pushC b (t, n, n + 1) = 0) :
    TI (n + 1) (pushB b (t, n, n + 1)).1 (o ++ (pushB b (t, n, n + 1)).2) ∧ Bu.wsum (o ++ (pushB b (t, n, n + 1)).2 ++ (pushB b (t, n, n + 1)).1.evs) = Bu.wsum (o ++ b.evs) + (n + 1) := by
  obtain ⟨h1, h2, h3⟩ := pushC_zero hC
  dsimp only at h1 h2 h3
  have hm := h.may.push (e := (t, n, n + 1)) h2 h1
  have hall : o ++ (pushB b (t, n, n + 1)).2 ++ (pushB b (t, n, n + 1)).1.evs = o ++ insL (t, n, n + 1) b.evs := settle_all (b := { b with mark := max b.mark t, evs := insL (t, n, n + 1) b.evs }) (h.may.sd.ins _) o
  have htn : Tn (o ++ insL (t, n, n + 1) b.evs) := h.tn.ins (e := (t, n, n + 1)) h.fr h3 h.key
  have hsum : Bu.wsum (o ++ insL (t, n, n + 1) b.evs) = Bu.wsum (o ++ b.evs) + (n + 1) := by
    rw [wsum_app, wsum_ins, wsum_app]
    dsimp only
    omega
  have hs := h.sum
  have hl := h.len
  have hf := settle_front { b with mark := max b.mark t, evs := insL (t, n, n + 1) b.evs }
  have ho := settle_out (b := { b with mark := max b.mark t, evs := insL (t, n, n + 1) b.evs })
  refine ⟨⟨hm, ?_, fun x hx => ?_, fun x hx => ?_, ?_, ?_⟩, ?_⟩
  · rw [hall]
    exact htn
  · rcases List.mem_append.1 hx with hx | hx
    · exact Nat.le_trans (h.fr x hx) hf
    · exact ho x hx
  · rw [hall] at hx
    rcases List.mem_append.1 hx with hx | hx
    · have := h.key x (List.mem_append_left _ hx)
      omega
    · rcases ins_mem.1 hx with rfl | hx
      · exact Nat.lt_succ_self _
      · have := h.key x (List.mem_append_right _ hx)
        omega
  · rw [hall, List.length_append, ins_len]
    rw [List.length_append] at hl
    omega
  · rw [hall, hsum]
    omega
  · rw [hall, hsum]
/-- Two neighbours in turn. -/
theorem tn_pair {l : List Ev} (h : Tn l) {j : Nat} (hj : j + 1 < l.length) : l[j].1 < l[j + 1].1 ∨ l[j].1 = l[j + 1].1 ∧ l[j].2.1 < l[j + 1].2.1 := List.pairwise_iff_getElem.1 h j (j + 1) (by omega) hj (by omega)
theorem wsum_take_le (l : List Ev) (j : Nat) : Bu.wsum (l.take j) ≤ Bu.wsum l := by
  have := wsum_app (l.take j) (l.drop j)
  rw [List.take_append_drop] at this
  omega
theorem wsum_step {l : List Ev} {j : Nat} (hj : j < l.length) : Bu.wsum (l.take (j + 1)) = Bu.wsum (l.take j) + l[j].2.2 := by
  rw [List.take_succ_eq_append_getElem hj, wsum_app]
  simp [Bu.wsum]
theorem bpush_at (b : Bf) (hb : Okb b) (hlen : b.evs.length < 100000) (e : Ev) (k n : Int) (hk : ((e.2.1 : Nat) : Int) = k) (hn : ((e.2.2 : Nat) : Int) = n) (w : World) (A : Option Addr) (c : Nat) (hev : Evs w A c b.evs) :
    Calls Try.prog 15 #[bufV b A c, .agg #[.int .u64 (e.1 : Int), .int .u64 k, .int .u64 n]] w fun r w' => ToldC w w' A r (pushR b e) (pushC b e) := by
  subst hk hn
  exact bpush_c b hb hlen e w A c hev
end Go.Proofs.Ytienfdnlekfmmaa
end
