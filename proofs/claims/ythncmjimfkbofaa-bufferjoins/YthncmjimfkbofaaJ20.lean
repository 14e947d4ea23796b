/- The law's awake. · For the law that joins: rows of buffers of the call's own, the joins of any number of buffers, weights. -/
import Derived.Test.YthncmjimfkbofaaJ19
import Derived.Test.YthncmjimfkbofaaJ13
import Derived.Test.YthncmjimfkbofaaJ17
section
/- The law's awake. -/
namespace Go.Proofs.Ythncmjimfkbofaa
set_option linter.unusedVariables false
open Go.RowKit Go.Shelf Go.Proofs.Rw Go.Proofs.Lh Go.Proofs.Bu

theorem awk_push0 (W : World) (A : Option Addr) (c : Nat) (h : Evs W A c []) :
    Calls Try.prog 28 #[.agg #[.int .u64 2, .int .i64 9, .int .u64 0, .int .u64 0, .slice A 0 c], .agg #[.int .u64 5, .int .u64 0, .int .u64 1]] W fun r w' => ∃ A1 c1 A2 c2, r = .returned (.tuple #[.agg #[.int .u64 2, .int .i64 9, .int .u64 5, .int .u64 3, .slice A1 1 c1], .slice A2 0 c2, .int .i64 0]) ∧ Evs w' A1 c1 [(5, 0, 1)] ∧ Evs w' A2 c2 [] ∧ Below W.heap.size W w' := by
  have h0 := bpush_c ⟨2, 9, 0, 0, []⟩ ⟨by decide, by decide, by decide, by decide, by decide, by unfold Sd; decide⟩ (by decide) (5, 0, 1) W A c h
  rw [show pushR ⟨2, 9, 0, 0, []⟩ (5, 0, 1) = (⟨2, 9, 5, 3, [(5, 0, 1)]⟩, []) by rfl, show pushC ⟨2, 9, 0, 0, []⟩ (5, 0, 1) = 0 by decide] at h0
  exact h0.mono fun _ _ ⟨A1, c1, A2, c2, h1, h2, h3, h4, _⟩ => ⟨A1, c1, A2, c2, h1, h2, h3, h4⟩
theorem awk_push1 (W : World) (A : Option Addr) (c : Nat) (h : Evs W A c [(5, 0, 1)]) :
    Calls Try.prog 28 #[.agg #[.int .u64 2, .int .i64 9, .int .u64 5, .int .u64 3, .slice A 1 c], .agg #[.int .u64 4, .int .u64 0, .int .u64 2]] W fun r w' => ∃ A1 c1 A2 c2, r = .returned (.tuple #[.agg #[.int .u64 2, .int .i64 9, .int .u64 5, .int .u64 3, .slice A1 2 c1], .slice A2 0 c2, .int .i64 0]) ∧ Evs w' A1 c1 [(4, 0, 2), (5, 0, 1)] ∧ Evs w' A2 c2 [] ∧ Below W.heap.size W w' := by
  have h0 := bpush_c ⟨2, 9, 5, 3, [(5, 0, 1)]⟩ ⟨by decide, by decide, by decide, by decide, by decide, by unfold Sd; decide⟩ (by decide) (4, 0, 2) W A c h
  rw [show pushR ⟨2, 9, 5, 3, [(5, 0, 1)]⟩ (4, 0, 2) = (⟨2, 9, 5, 3, [(4, 0, 2), (5, 0, 1)]⟩, []) by rfl, show pushC ⟨2, 9, 5, 3, [(5, 0, 1)]⟩ (4, 0, 2) = 0 by decide] at h0
  exact h0.mono fun _ _ ⟨A1, c1, A2, c2, h1, h2, h3, h4, _⟩ => ⟨A1, c1, A2, c2, h1, h2, h3, h4⟩
theorem awk_push2 (W : World) (A : Option Addr) (c : Nat) (h : Evs W A c [(4, 0, 2), (5, 0, 1)]) :
    Calls Try.prog 28 #[.agg #[.int .u64 2, .int .i64 9, .int .u64 5, .int .u64 3, .slice A 2 c], .agg #[.int .u64 8, .int .u64 0, .int .u64 3]] W fun r w' => ∃ A1 c1 A2 c2, r = .returned (.tuple #[.agg #[.int .u64 2, .int .i64 9, .int .u64 8, .int .u64 6, .slice A1 1 c1], .slice A2 2 c2, .int .i64 0]) ∧ Evs w' A1 c1 [(8, 0, 3)] ∧ Evs w' A2 c2 [(4, 0, 2), (5, 0, 1)] ∧ Below W.heap.size W w' := by
  have h0 := bpush_c ⟨2, 9, 5, 3, [(4, 0, 2), (5, 0, 1)]⟩ ⟨by decide, by decide, by decide, by decide, by decide, by unfold Sd; decide⟩ (by decide) (8, 0, 3) W A c h
  rw [show pushR ⟨2, 9, 5, 3, [(4, 0, 2), (5, 0, 1)]⟩ (8, 0, 3) = (⟨2, 9, 8, 6, [(8, 0, 3)]⟩, [(4, 0, 2), (5, 0, 1)]) by rfl, show pushC ⟨2, 9, 5, 3, [(4, 0, 2), (5, 0, 1)]⟩ (8, 0, 3) = 0 by decide] at h0
  exact h0.mono fun _ _ ⟨A1, c1, A2, c2, h1, h2, h3, h4, _⟩ => ⟨A1, c1, A2, c2, h1, h2, h3, h4⟩
theorem awk_push3 (W : World) (A : Option Addr) (c : Nat) (h : Evs W A c [(8, 0, 3)]) :
    Calls Try.prog 28 #[.agg #[.int .u64 2, .int .i64 9, .int .u64 8, .int .u64 6, .slice A 1 c], .agg #[.int .u64 5, .int .u64 0, .int .u64 1]] W fun r w' => r = .returned (.tuple #[.agg #[.int .u64 0, .int .i64 0, .int .u64 0, .int .u64 0, .slice none 0 0], .slice none 0 0, .int .i64 4]) ∧ Below W.heap.size W w' :=
  bpush_bad ⟨2, 9, 8, 6, [(8, 0, 3)]⟩ (5, 0, 1) 4 (by decide) (by decide) W A c
theorem awk_weight (W : World) (A : Option Addr) (c : Nat) (h : Evs W A c [(8, 0, 3)]) :
    Calls Try.prog 15 #[.agg #[.int .u64 2, .int .i64 9, .int .u64 8, .int .u64 6, .slice A 1 c]] W fun r w' => r = .returned (.int .u64 3) ∧ Below W.heap.size W w' :=
  bweight_any 2 9 8 6 [(8, 0, 3)] (by decide) W A c h.lies
theorem awk_may (W : World) (A : Option Addr) (c : Nat) (h : Evs W A c [(8, 0, 3)]) :
    Calls Try.prog 29 #[.agg #[.int .u64 2, .int .i64 9, .int .u64 8, .int .u64 6, .slice A 1 c]] W fun r w' => r = .returned (.int .i64 0) ∧ Below W.heap.size W w' :=
  bmay_any 2 9 8 6 (by decide) [(8, 0, 3)] (by decide) W A c h.lies
theorem awk_new (W : World) : Calls Try.prog 27 #[.int .u64 2, .int .i64 9] W fun r w' => r = .returned (.tuple #[.agg #[.int .u64 2, .int .i64 9, .int .u64 0, .int .u64 0, .slice none 0 0], .int .i64 0]) ∧ Below W.heap.size W w' := by
  have h := bnew_any 2 9 W
  rw [newV_yes (by decide)] at h
  exact h

set_option maxRecDepth 100000 in
set_option maxHeartbeats 4000000 in
theorem bawake_any (w : World) : Calls Try.prog 9 #[] w fun e w' => e = .returned (.bool true) ∧ Below w.heap.size w w' := by
  go_enter Try.func9, Try.ntmps9
  go_upto_region 2 with (go_at_call 27; (with_reducible refine (awk_new _).mono ?_); rintro e w1 ⟨rfl, hb⟩; have HB1 := Lib.hid hb; clear hb)
  obtain ⟨V1, hV1⟩ : ∃ W, w1.alloc (.cells #[.int .u64 2, .int .i64 9, .int .u64 0, .int .u64 0, .slice none 0 0] 33) = W := ⟨_, rfl⟩
  have bV1 : Below w1.heap.size w1 V1 := by rw [← hV1]; exact (Below.refl _ w1).alloc (Nat.le_refl _) _
  have pV1 : V1.heap[w1.heap.size]? = some (.cells #[.int .u64 2, .int .i64 9, .int .u64 0, .int .u64 0, .slice none 0 0] 33) := by rw [← hV1]; exact heap_alloc_new w1 _
  rw [hV1]
  obtain ⟨q0, hq0⟩ : ∃ q, w1.heap.size = q := ⟨_, rfl⟩
  rw [hq0] at pV1 ⊢
  obtain ⟨⟨x0, x1, x2, x3, x4⟩, -⟩ := box5 pV1
  have lV1 := lt_of pV1
  have PV1 := Lib.hid pV1
  have eV1 : Evs V1 none 0 [] := Evs.none _
  have HBV1 := Lib.hid (thn HB1.out bV1)
  have EV0 := Lib.hid eV1
  clear hV1 bV1 pV1 eV1 hq0
  go_upto_region 3 with (go_at_call 28; (with_reducible refine (awk_push0 _ _ _ EV0.out).mono ?_); rintro e w2 ⟨A1, c1, B1, d1, rfl, h1, h2, hb⟩; have HE1 := Lib.hid h1; have HM1 := Lib.hid h2; have HB2 := Lib.hid (thn HBV1.out hb); clear h1 h2 hb)
  clear x0 x1 x2 x3 x4
  obtain ⟨V2, hV2⟩ : ∃ W, w2.alloc (.cells #[.int .u64 2, .int .i64 9, .int .u64 5, .int .u64 3, .slice A1 1 c1] 33) = W := ⟨_, rfl⟩
  have bV2 : Below w2.heap.size w2 V2 := by rw [← hV2]; exact (Below.refl _ w2).alloc (Nat.le_refl _) _
  have pV2 : V2.heap[w2.heap.size]? = some (.cells #[.int .u64 2, .int .i64 9, .int .u64 5, .int .u64 3, .slice A1 1 c1] 33) := by rw [← hV2]; exact heap_alloc_new w2 _
  rw [hV2]
  obtain ⟨q1, hq1⟩ : ∃ q, w2.heap.size = q := ⟨_, rfl⟩
  rw [hq1] at pV2 ⊢
  obtain ⟨⟨x0, x1, x2, x3, x4⟩, -⟩ := box5 pV2
  have lV2 := lt_of pV2
  have PV2 := Lib.hid pV2
  have eV2 := HE1.out.grow bV2
  have HBV2 := Lib.hid (thn HB2.out bV2)
  have EV1 := Lib.hid eV2
  clear hV2 bV2 pV2 eV2 hq1
  go_upto_region 4 with (go_at_call 28; (with_reducible refine (awk_push1 _ _ _ EV1.out).mono ?_); rintro e w3 ⟨A2, c2, B2, d2, rfl, h1, h2, hb⟩; have HE2 := Lib.hid h1; have HM2 := Lib.hid h2; have HB3 := Lib.hid (thn HBV2.out hb); clear h1 h2 hb)
  clear x0 x1 x2 x3 x4
  obtain ⟨V3, hV3⟩ : ∃ W, w3.alloc (.cells #[.int .u64 2, .int .i64 9, .int .u64 5, .int .u64 3, .slice A2 2 c2] 33) = W := ⟨_, rfl⟩
  have bV3 : Below w3.heap.size w3 V3 := by rw [← hV3]; exact (Below.refl _ w3).alloc (Nat.le_refl _) _
  have pV3 : V3.heap[w3.heap.size]? = some (.cells #[.int .u64 2, .int .i64 9, .int .u64 5, .int .u64 3, .slice A2 2 c2] 33) := by rw [← hV3]; exact heap_alloc_new w3 _
  rw [hV3]
  obtain ⟨q2, hq2⟩ : ∃ q, w3.heap.size = q := ⟨_, rfl⟩
  rw [hq2] at pV3 ⊢
  obtain ⟨⟨x0, x1, x2, x3, x4⟩, -⟩ := box5 pV3
  have lV3 := lt_of pV3
  have PV3 := Lib.hid pV3
  have eV3 := HE2.out.grow bV3
  have HBV3 := Lib.hid (thn HB3.out bV3)
  have EV2 := Lib.hid eV3
  clear hV3 bV3 pV3 eV3 hq2
  go_upto_region 5 with (go_at_call 28; (with_reducible refine (awk_push2 _ _ _ EV2.out).mono ?_); rintro e w4 ⟨A3, c3, B3, d3, rfl, h1, h2, hb⟩; have HE3 := Lib.hid h1; have HM3 := Lib.hid h2; have HB4 := Lib.hid (thn HBV3.out hb); clear h1 h2 hb)
  clear x0 x1 x2 x3 x4
  obtain ⟨V4, hV4⟩ : ∃ W, w4.alloc (.cells #[.int .u64 2, .int .i64 9, .int .u64 8, .int .u64 6, .slice A3 1 c3] 33) = W := ⟨_, rfl⟩
  have bV4 : Below w4.heap.size w4 V4 := by rw [← hV4]; exact (Below.refl _ w4).alloc (Nat.le_refl _) _
  have pV4 : V4.heap[w4.heap.size]? = some (.cells #[.int .u64 2, .int .i64 9, .int .u64 8, .int .u64 6, .slice A3 1 c3] 33) := by rw [← hV4]; exact heap_alloc_new w4 _
  rw [hV4]
  obtain ⟨q3, hq3⟩ : ∃ q, w4.heap.size = q := ⟨_, rfl⟩
  rw [hq3] at pV4 ⊢
  obtain ⟨⟨x0, x1, x2, x3, x4⟩, -⟩ := box5 pV4
  have lV4 := lt_of pV4
  have PV4 := Lib.hid pV4
  have eV4 := HE3.out.grow bV4
  have HBV4 := Lib.hid (thn HB4.out bV4)
  have mV4 := HM3.out.grow bV4
  have MV := Lib.hid mV4
  clear mV4
  have EV3 := Lib.hid eV4
  clear hV4 bV4 pV4 eV4 hq3
  go_upto_region 6 with (go_at_call 28; (with_reducible refine (awk_push3 _ _ _ EV3.out).mono ?_); rintro e w5 ⟨rfl, hb⟩; have HE4 := Lib.hid (EV3.out.grow hb); have HM4 := Lib.hid (MV.out.grow hb); have HP4 := Lib.hid ((hb.block _ lV4).trans PV4.out); have HB5 := Lib.hid (thn HBV4.out hb); clear hb)
  clear x0 x1 x2 x3 x4
  obtain ⟨V5, hV5⟩ : ∃ W, w5.alloc (.cells #[.int .u64 0, .int .i64 0, .int .u64 0, .int .u64 0, .slice none 0 0] 33) = W := ⟨_, rfl⟩
  have b5 : Below w5.heap.size w5 V5 := by rw [← hV5]; exact (Below.refl _ w5).alloc (Nat.le_refl _) _
  have p5 := (b5.block _ (lt_of HP4.out)).trans HP4.out
  obtain ⟨⟨x0, x1, x2, x3, x4⟩, -⟩ := box5 p5
  have l5 := lt_of p5
  obtain ⟨bb, off, rfl, hbb, -, hc⟩ := ev_at (HM4.out.grow b5).lies (by decide)
  obtain ⟨y0, -, -⟩ := hc 0 (by decide)
  simp only [Nat.zero_mul, Nat.add_zero] at y0
  have y0' : V5.cell? ⟨bb, off, none⟩ = some (.int .u64 4) := y0
  have P5 := Lib.hid p5
  have E5 := Lib.hid (HE4.out.grow b5)
  have B5 := Lib.hid (thn HB5.out b5)
  rw [hV5]
  clear hV5 b5 p5 hc y0
  go_wp2_with (first
    | (go_at_call 15; (with_reducible refine (awk_weight _ _ _ E5.out).mono ?_); rintro e w6 ⟨rfl, hb⟩; have p6 := (hb.block _ l5).trans P5.out; obtain ⟨⟨z0, z1, z2, z3, z4⟩, -⟩ := box5 p6; have l6 := lt_of p6; have E6 := Lib.hid (E5.out.grow hb); have B6 := Lib.hid (thn B5.out hb); clear hb p6)
    | (go_at_call 29; (with_reducible refine (awk_may _ _ _ E6.out).mono ?_); rintro e w7 ⟨rfl, hb⟩; have B7 := Lib.hid (thn B6.out hb); clear hb))
  go_ret
  exact ⟨rfl, B7.out⟩
end Go.Proofs.Ythncmjimfkbofaa
end
section
/- For the law that joins: rows of buffers of the call's own, the joins of any number of buffers, weights. -/
namespace Go.Proofs.Ythncmjimfkbofaa
set_option linter.unusedVariables false
open Go.RowKit Go.Shelf Go.Proofs.Rw Go.Proofs.Lh Go.Proofs.Bu Go.Proofs.So

theorem info_buf12 : (Try.prog.info? 29).map (fun i => (i.zero, i.size, i.bytes)) = some (some (.agg #[.int .u64 0, .int .i64 0, .int .u64 0, .int .u64 0, .slice none 0 0]), 5, 56) := by kernel_rfl
theorem info_bufB : (Try.prog.info? 33).map (fun i => (i.zero, i.size, i.bytes)) = some (some (.agg #[.int .u64 0, .int .i64 0, .int .u64 0, .int .u64 0, .slice none 0 0]), 5, 56) := by kernel_rfl
theorem lit_bf (T : TypeId) (W : World) (n : Nat) (hn : W.heap.size = n) (x : Bs) : Lies bfL (W.alloc (.cells #[.int .u64 (x.1.late : Int), .int .i64 (x.1.room : Int), .int .u64 (x.1.mark : Int), .int .u64 (x.1.front : Int), .slice x.2.1 x.1.evs.length x.2.2] T)) (n + 1) (.slice (some ⟨n, 0, none⟩) 1 1) [x] := by
  subst hn
  refine ⟨_, 1, rfl, by simp, by unfold maxLen; omega, .inr ⟨W.heap.size, 0, by omega, rfl, fun j u hu => ?_⟩⟩
  rw [Nat.zero_add, cell_of_row _ _ _ #[.int .u64 (x.1.late : Int), .int .i64 (x.1.room : Int), .int .u64 (x.1.mark : Int), .int .u64 (x.1.front : Int), .slice x.2.1 x.1.evs.length x.2.2] T (0, 0) (heap_alloc_new W _)]
  rw [cells_one] at hu
  simpa [bfL] using hu
theorem own_tyB {w : World} {base : Nat} {e : TypeId} {size n : Nat} {v : Value} {cs : List Value} (h : w.ownsRow base e size v n cs) {b : Nat} (hb : v.ownBlock = some b) : ∃ cs' fr, w.heap[b]? = some (.cells cs' e fr) := by
  rcases h.2 with ⟨rfl, _⟩ | ⟨g, cap, cur, rfl, _, hg, _⟩
  · cases hb
  · have : g = b := by simpa [Value.ownBlock] using hb
    subst this
    exact ⟨_, _, hg⟩
theorem own_tyne {w : World} {base base' : Nat} {e e' : TypeId} {size size' n n' : Nat} {v v' : Value} {cs cs' : List Value} (h : w.ownsRow base e size v n cs) (h' : w.ownsRow base' e' size' v' n' cs') (hT : e ≠ e') : v.ownBlock = none ∨ v.ownBlock ≠ v'.ownBlock := by
  cases hv : v.ownBlock with
  | none => exact .inl rfl
  | some b =>
    refine .inr fun hb => ?_
    obtain ⟨c1, f1, h1⟩ := own_tyB h hv
    obtain ⟨c2, f2, h2⟩ := own_tyB h' hb.symm
    rw [h1] at h2
    injection h2 with h2
    injection h2 with _ h2
    exact hT h2
theorem evs_tyne {w : World} {A : Option Addr} {c base size n : Nat} {xs : List Ev} {e : TypeId} {v : Value} {cs : List Value} (h : Evs w A c xs) (h' : w.ownsRow base e size v n cs) (hT : e ≠ 41) : ∀ b, (Value.slice A xs.length c).ownBlock = some b → some b ≠ v.ownBlock := by
  intro b hb hv
  obtain ⟨c2, f2, h2⟩ := own_tyB h' hv.symm
  rcases h.fine with ⟨rfl, _⟩ | ⟨b', off, rfl⟩
  · cases hb
  · have : b' = b := by simpa [Value.ownBlock] using hb
    subst this
    obtain ⟨c1, f1, h1⟩ := h.typed b' off rfl
    rw [h1] at h2
    injection h2 with h2
    injection h2 with _ h2
    exact hT h2.symm

/-! ### No buffers at all -/

theorem bjoin_none (A : Option Addr) (c : Nat) (w : World) :
    Calls Try.prog 13 #[.slice A 0 c] w fun e w' => e = .returned (.tuple #[bval 0 0 0 0 (.slice none 0 0), .slice none 0 0]) ∧ Below w.heap.size w w' := by
  obtain ⟨W0, hW0⟩ : ∃ W, w.alloc (.cells #[.int .u64 0, .int .i64 0, .int .u64 0, .int .u64 0, .slice none 0 0] 33) = W := ⟨_, rfl⟩
  have p0 : W0.heap[w.heap.size]? = some (.cells #[.int .u64 0, .int .i64 0, .int .u64 0, .int .u64 0, .slice none 0 0] 33) := by rw [← hW0]; exact heap_alloc_new w _
  have b0 : Below w.heap.size w W0 := by rw [← hW0]; exact (Below.refl _ w).alloc (Nat.le_refl _) _
  obtain ⟨W9, hW9, q9, g9⟩ := fin5 p0 (.int .u64 0) (.int .i64 0) (.int .u64 0) (.int .u64 0) (.slice none 0 0)
  obtain ⟨⟨v0, v1, v2, v3, v4⟩, fv⟩ := box5 p0
  have lv := lt_of p0
  obtain ⟨⟨z0, z1, z2, z3, z4⟩, -⟩ := box5 q9
  have B9 := Lib.hid (below_row b0 g9 (Nat.le_refl _))
  have HW0 := Lib.hid hW0
  have HW9 := Lib.hid hW9
  have Z := Lib.hid (And.intro z0 (And.intro z1 (And.intro z2 (And.intro z3 z4))))
  clear hW0 hW9 p0 b0 q9 g9 z0 z1 z2 z3 z4
  go_enter Try.func13, Try.ntmps13
  go_upto_region 1 with (fail)
  rw [HW0.out]
  go_wp2
  rw [HW9.out]
  obtain ⟨z0, z1, z2, z3, z4⟩ := Z.out
  exact bodyPost_ret (v := .tuple #[bval 0 0 0 0 (.slice none 0 0), .slice none 0 0]) (by simp [results, Try.results13, go_sem, z0, z1, z2, z3, z4]) rfl ⟨rfl, B9.out⟩
theorem rjoin_none (A : Option Addr) (c : Nat) (w : World) :
    Calls Try.prog 14 #[.slice A 0 c] w fun e w' => e = .returned (.tuple #[bval 0 0 0 0 (.slice none 0 0), .slice none 0 0]) ∧ Below w.heap.size w w' := by
  obtain ⟨W0, hW0⟩ : ∃ W, w.alloc (.cells #[.int .u64 0, .int .i64 0, .int .u64 0, .int .u64 0, .slice none 0 0] 29) = W := ⟨_, rfl⟩
  have p0 : W0.heap[w.heap.size]? = some (.cells #[.int .u64 0, .int .i64 0, .int .u64 0, .int .u64 0, .slice none 0 0] 29) := by rw [← hW0]; exact heap_alloc_new w _
  have b0 : Below w.heap.size w W0 := by rw [← hW0]; exact (Below.refl _ w).alloc (Nat.le_refl _) _
  obtain ⟨W9, hW9, q9, g9⟩ := fin5 p0 (.int .u64 0) (.int .i64 0) (.int .u64 0) (.int .u64 0) (.slice none 0 0)
  obtain ⟨⟨v0, v1, v2, v3, v4⟩, fv⟩ := box5 p0
  have lv := lt_of p0
  obtain ⟨⟨z0, z1, z2, z3, z4⟩, -⟩ := box5 q9
  have B9 := Lib.hid (below_row b0 g9 (Nat.le_refl _))
  have HW0 := Lib.hid hW0
  have HW9 := Lib.hid hW9
  have Z := Lib.hid (And.intro z0 (And.intro z1 (And.intro z2 (And.intro z3 z4))))
  clear hW0 hW9 p0 b0 q9 g9 z0 z1 z2 z3 z4
  go_enter Try.func14, Try.ntmps14
  go_upto_region 1 with (fail)
  rw [HW0.out]
  go_wp2
  rw [HW9.out]
  obtain ⟨z0, z1, z2, z3, z4⟩ := Z.out
  exact bodyPost_ret (v := .tuple #[bval 0 0 0 0 (.slice none 0 0), .slice none 0 0]) (by simp [results, Try.results14, go_sem, z0, z1, z2, z3, z4]) rfl ⟨rfl, B9.out⟩

/-! ### Any number of buffers -/

/-- What a join tells. -/
def joinR : List Bs → Bf × List Ev
  | [] => (⟨0, 0, 0, 0, []⟩, [])
  | x :: xs => (joinB (x :: xs) x.1, outL (frOf (x :: xs)) (gath [] (evsOf (x :: xs))))
theorem wsum_parts (f : Nat) : ∀ l : List Ev, Bu.wsum (stayL f l) + Bu.wsum (outL f l) = Bu.wsum l := by
  intro l
  induction l with
  | nil => rfl
  | cons e l ih =>
    by_cases h : e.1 ≤ f
    · have h2 : ¬ f < e.1 := by omega
      have e1 : outL f (e :: l) = e :: outL f l := by simp [Bu.outL, h]
      have e2 : stayL f (e :: l) = stayL f l := by simp [Bu.stayL, h2]
      rw [e1, e2]
      simp only [Bu.wsum, List.map_cons, List.sum_cons] at *
      omega
    · have h2 : f < e.1 := by omega
      have e1 : outL f (e :: l) = outL f l := by simp [Bu.outL, h]
      have e2 : stayL f (e :: l) = e :: stayL f l := by simp [Bu.stayL, h2]
      rw [e1, e2]
      simp only [Bu.wsum, List.map_cons, List.sum_cons] at *
      omega
theorem wsum_gath : ∀ (es l : List Ev), Bu.wsum (gath l es) = Bu.wsum l + Bu.wsum es
  | [], l => by simp [gath, Bu.wsum]
  | e :: es, l => by
    show Bu.wsum (gath (insL e l) es) = _
    rw [wsum_gath es (insL e l), wsum_ins]
    simp only [Bu.wsum, List.map_cons, List.sum_cons]
    omega
theorem joinR_sum (xs : List Bs) : wOf ((joinR xs).1.evs ++ (joinR xs).2) = wOf (evsOf xs) := by
  cases xs with
  | nil => rfl
  | cons x xs =>
    unfold joinR joinB wOf
    dsimp only
    rw [wsum_app, wsum_parts, wsum_gath]
    simp [Bu.wsum]
theorem joinR_len (xs : List Bs) : (joinR xs).1.evs.length ≤ (evsOf xs).length ∧ (joinR xs).2.length ≤ (evsOf xs).length := by
  cases xs with
  | nil => exact ⟨Nat.le_refl _, Nat.le_refl _⟩
  | cons x xs =>
    have h := gath_len (evsOf (x :: xs)) []
    unfold joinR joinB
    dsimp only
    refine ⟨Nat.le_trans (List.length_filter_le ..) (by rw [h]; simp), Nat.le_trans (List.length_filter_le ..) (by rw [h]; simp)⟩
theorem bjoinA_any (xs : List Bs) (hlen : xs.length ≤ 1000) (hm : ∀ x ∈ xs, x.1.mark < 18446744073709551616) (hf : ∀ x ∈ xs, x.1.front < 18446744073709551616) (hev : (evsOf xs).length ≤ 100000) (w : World) (A : Option Addr) (n c : Nat) (hn : xs.length = n) (h : BufsIn w w.heap.size (.slice A n c) xs) :
    Calls Try.prog 13 #[.slice A n c] w fun e w' => ∃ A1 c1 A2 c2, e = .returned (.tuple #[bufV (joinR xs).1 A1 c1, .slice A2 (joinR xs).2.length c2]) ∧
      Lies evL w' w'.heap.size (.slice A1 (joinR xs).1.evs.length c1) (joinR xs).1.evs ∧ Lies evL w' w'.heap.size (.slice A2 (joinR xs).2.length c2) (joinR xs).2 ∧ Below w.heap.size w w' := by
  cases xs with
  | nil =>
    subst hn
    refine (bjoin_none A c w).mono ?_
    rintro e w' ⟨rfl, hb⟩
    exact ⟨none, 0, none, 0, rfl, Lies.nil _ _ (by unfold maxLen; omega), Lies.nil _ _ (by unfold maxLen; omega), hb⟩
  | cons x xs => exact bjoin_any (x :: xs) (by simp) hlen hm hf hev w A n c hn h
theorem rjoinA_any (xs : List Bs) (hlen : xs.length ≤ 1000) (hev : (evsOf xs).length ≤ 100000) (w : World) (A : Option Addr) (n c : Nat) (hn : xs.length = n) (h : BufsIn w w.heap.size (.slice A n c) xs) :
    Calls Try.prog 14 #[.slice A n c] w fun e w' => ∃ A1 c1 A2 c2, e = .returned (.tuple #[bufV (joinR xs).1 A1 c1, .slice A2 (joinR xs).2.length c2]) ∧
      Lies evL w' w'.heap.size (.slice A1 (joinR xs).1.evs.length c1) (joinR xs).1.evs ∧ Lies evL w' w'.heap.size (.slice A2 (joinR xs).2.length c2) (joinR xs).2 ∧ Below w.heap.size w w' := by
  cases xs with
  | nil =>
    subst hn
    refine (rjoin_none A c w).mono ?_
    rintro e w' ⟨rfl, hb⟩
    exact ⟨none, 0, none, 0, rfl, Lies.nil _ _ (by unfold maxLen; omega), Lies.nil _ _ (by unfold maxLen; omega), hb⟩
  | cons x xs => exact rjoin_any (x :: xs) (by simp) hlen hev w A n c hn h
theorem wOf_snoc (l : List Ev) (e : Ev) : IntKind.u64.wrap ((wOf l : Int) + (e.2.2 : Int)) = (wOf (l ++ [e]) : Int) := by
  unfold wOf
  rw [wsum_app, IntKind.wrap_u64]
  have : Bu.wsum [e] = e.2.2 := by simp [Bu.wsum]
  rw [this]
  omega
theorem wOf_app (l m : List Ev) : IntKind.u64.wrap ((wOf l : Int) + (wOf m : Int)) = (wOf (l ++ m) : Int) := by
  unfold wOf
  rw [wsum_app, IntKind.wrap_u64]
  omega
end Go.Proofs.Ythncmjimfkbofaa
end
