/- Plain mathematics of the document's With: the least one of those that are left, again and again. · The contract of replay.refusal. · The document's: weighed, bad. · replay.ticks, its function that is ranged over: each tick of sorted lots once, with all its weight. -/
import Derived.Test.YtpdhkpgnajfobaaJ14
import Derived.Test.YtpdhkpgnajfobaaJ05
section
/- Plain mathematics of the document's With: the least one of those that are left, again and again. -/
namespace Go.Proofs.Lh
open Go.Proofs.Lm (Sp Turn)

/-- Those that are left. -/
def undone : List Sp → List Bool → List Sp
  | [], _ => []
  | _, [] => []
  | x :: xs, d :: ds => if d = true then undone xs ds else x :: undone xs ds
theorem undone_none : ∀ xs : List Sp, undone xs (List.replicate xs.length false) = xs
  | [] => rfl
  | x :: xs => by
    rw [List.length_cons, List.replicate_succ, undone, if_neg (by simp), undone_none xs]
theorem undone_all : ∀ (xs : List Sp) (ds : List Bool), (∀ i, i < xs.length → ds[i]? = some true) → undone xs ds = []
  | [], _, _ => rfl
  | x :: xs, [], h => by have := h 0 (by simp); simp at this
  | x :: xs, d :: ds, h => by
    have h0 := h 0 (by simp)
    simp at h0
    rw [undone, if_pos h0]
    exact undone_all xs ds fun i hi => by have := h (i + 1) (by simpa using hi); simpa using this
theorem undone_set : ∀ (xs : List Sp) (ds : List Bool) (m : Nat), m < xs.length → ds[m]? = some false → (undone xs ds).Perm (xs.getD m (0, 0) :: undone xs (ds.set m true))
  | [], _, m, h, _ => by simp at h
  | x :: xs, [], m, _, h => by simp at h
  | x :: xs, d :: ds, 0, _, h => by
    simp at h
    subst h
    rw [undone, if_neg (by simp), List.set_cons_zero, undone, if_pos rfl]
    exact List.Perm.refl _
  | x :: xs, d :: ds, m + 1, hm, h => by
    have ih := undone_set xs ds m (by simpa using hm) (by simpa using h)
    rw [List.set_cons_succ, undone, undone, List.getD_cons_succ]
    split
    · exact ih
    · exact (ih.cons x).trans (List.Perm.swap _ _ _)
theorem undone_mem : ∀ (xs : List Sp) (ds : List Bool) {y : Sp}, y ∈ undone xs ds → ∃ i, i < xs.length ∧ ds[i]? = some false ∧ xs.getD i (0, 0) = y
  | [], _, _, h => by cases h
  | x :: xs, [], _, h => by cases h
  | x :: xs, d :: ds, y, h => by
    rw [undone] at h
    split at h
    · obtain ⟨i, h1, h2, h3⟩ := undone_mem xs ds h
      exact ⟨i + 1, by simpa using h1, by simpa using h2, by simpa using h3⟩
    · rename_i hd
      rcases List.mem_cons.1 h with rfl | h
      · exact ⟨0, by simp, by simp at hd; simp [hd], by simp⟩
      · obtain ⟨i, h1, h2, h3⟩ := undone_mem xs ds h
        exact ⟨i + 1, by simpa using h1, by simpa using h2, by simpa using h3⟩

/-- How far it has come: seq are those that were picked, in their turn. -/
structure Pick (all seq : List Sp) (D : List Bool) : Prop where
  len : D.length = all.length
  perm : (seq ++ undone all D).Perm all
  turn : seq.Pairwise fun x y => x.1 ≤ y.1
  low : ∀ x ∈ seq, ∀ y ∈ undone all D, x.1 ≤ y.1
theorem Pick.start (all : List Sp) : Pick all [] (List.replicate all.length false) where
  len := by simp
  perm := by rw [undone_none]; exact List.Perm.refl _
  turn := List.Pairwise.nil
  low x hx := by cases hx
/-- There is one that is left. -/
theorem Pick.left {all seq : List Sp} {D : List Bool} (h : Pick all seq D) (hs : seq.length < all.length) : ¬ ∀ i, i < all.length → D[i]? = some true := by
  intro hh
  have e := undone_all all D hh
  have := h.perm.length_eq
  rw [e] at this
  simp at this
  omega
theorem Pick.done {all seq : List Sp} {D : List Bool} (h : Pick all seq D) (hs : seq.length = all.length) : seq.Perm all := by
  have e := h.perm.length_eq
  rw [List.length_append] at e
  have e2 : undone all D = [] := List.eq_nil_of_length_eq_zero (by omega)
  have := h.perm
  rw [e2, List.append_nil] at this
  exact this
def foldL (k : Nat) (seq : List Sp) : Lv := seq.foldl (fun L x => addW k L x.1 x.2) []
theorem foldL_snoc (k : Nat) (seq : List Sp) (x : Sp) : foldL k (seq ++ [x]) = addW k (foldL k seq) x.1 x.2 := by
  unfold foldL
  rw [List.foldl_append]
  rfl
theorem Pick.next {all seq : List Sp} {D : List Bool} {k : Nat} (h : Pick all seq D) (hF : ∀ L : List Sp, L.Perm all → (L.Pairwise fun x y => x.1 ≤ y.1) → Fine k L) {m : Nat} (hml : m < all.length) (hm : D[m]? = some false)
    (hmin : ∀ i, i < all.length → D[i]? = some false → (all.getD m (0, 0)).1 ≤ (all.getD i (0, 0)).1) :
    Pick all (seq ++ [all.getD m (0, 0)]) (D.set m true) ∧ code (foldL k seq) (all.getD m (0, 0)).1 (all.getD m (0, 0)).2 = 0 ∧ Made k (foldL k seq) ∧ (all.getD m (0, 0)).2 ≤ 4503599627370496 := by
  obtain ⟨x, hx⟩ : ∃ x, all.getD m (0, 0) = x := ⟨_, rfl⟩
  have hset := undone_set all D m hml hm
  rw [hx] at hset hmin ⊢
  obtain ⟨U, hU⟩ : ∃ U, undone all (D.set m true) = U := ⟨_, rfl⟩
  rw [hU] at hset
  have hxU : x ∈ undone all D := hset.mem_iff.2 List.mem_cons_self
  have hUx : ∀ y ∈ U, x.1 ≤ y.1 := by
    intro y hy
    have hy' : y ∈ undone all D := hset.mem_iff.2 (List.mem_cons_of_mem _ hy)
    obtain ⟨i, h1, h2, h3⟩ := undone_mem all D hy'
    have := hmin i h1 h2
    rw [h3] at this
    exact this
  have hturn : (seq ++ [x]).Pairwise fun x y => x.1 ≤ y.1 := by
    rw [List.pairwise_append]
    refine ⟨h.turn, List.pairwise_singleton _ _, fun a ha b hb => ?_⟩
    rw [List.mem_singleton.1 hb]
    exact h.low a ha x hxU
  have hp : (seq ++ [x] ++ U).Perm all := by
    refine List.Perm.trans ?_ h.perm
    rw [List.append_assoc]
    exact (List.Perm.refl seq).append hset.symm
  have hlow : ∀ a ∈ seq ++ [x], ∀ y ∈ U, a.1 ≤ y.1 := by
    intro a ha y hy
    rcases List.mem_append.1 ha with ha | ha
    · exact h.low a ha y (hset.mem_iff.2 (List.mem_cons_of_mem _ hy))
    · rw [List.mem_singleton.1 ha]
      exact hUx y hy
  obtain ⟨V, hV1, hV2⟩ := sorted_ex U
  have hf := hF (seq ++ [x] ++ V) (((List.Perm.refl _).append hV1).trans hp) (by
    rw [List.pairwise_append]
    exact ⟨hturn, hV2, fun a ha y hy => hlow a ha y (hV1.mem_iff.1 hy)⟩)
  have hl : seq.length < (seq ++ [x] ++ V).length := by simp
  have hc := hf.code hl
  have hm2 := hf.made seq.length
  have hb := mem_bound (all := seq ++ [x] ++ V) (x := x) (by simp)
  have e1 : upTo k (seq ++ [x] ++ V) seq.length = foldL k seq := by
    unfold upTo foldL
    rw [List.append_assoc, List.take_left]
  have e2 : (seq ++ [x] ++ V)[seq.length] = x := by simp
  rw [e1] at hm2
  rw [e1, e2] at hc
  exact ⟨⟨by rw [List.length_set]; exact h.len, by rw [hU]; exact hp, hturn, by rw [hU]; exact hlow⟩, hc, hm2, Nat.le_trans hb hf.small⟩
end Go.Proofs.Lh
end
section
/- The contract of replay.refusal. -/
namespace Go.Proofs.Lh
theorem any_all {α : Type} (l : List α) (p q : α → Bool) (h : ∀ x ∈ l, p x = !q x) : (l.any p = false) ↔ l.all q = true := by
  rw [List.any_eq_false, List.all_eq_true]
  constructor
  · intro k x hx
    have := k x hx
    rw [h x hx] at this
    simpa using this
  · intro k x hx
    rw [h x hx, k x hx]
    simp
theorem bool_any {α : Type} (l : List α) (p q : α → Bool) (h : ∀ x ∈ l, p x = !q x) : l.all q = !l.any p := by
  have := any_all l p q h
  cases e1 : l.any p <;> cases e2 : l.all q <;> simp_all
/-- What forbids a merge, as the program asks. -/
theorem bad_asks (evs : List Ev) (ms : List Hm) (q1 q2 q4 q5 : Bool) (h1 : (evs.any fun x => x.2.2 == 0) = q1) (h2 : (ms.any fun m => m.1 != kOne ms) = q2) (h4 : (evs.any fun x => decide (9223372036854775807 < x.1)) = q4) (h5 : decide (4503599627370496 < totM ms + totE evs) = q5) :
    badN evs ms = if ms.length = 0 ∨ q1 = true then 1 else if q2 = true then 9 else if 4 ≤ gmax ms then 10 else if q4 = true then 6 else if q5 = true then 5 else 0 := by
  have e1 : lightB evs = !q1 := by
    rw [← h1]
    exact bool_any evs _ _ fun x _ => by simp [bne]
  have e2 : alikeB ms = !q2 := by
    rw [← h2]
    exact bool_any ms _ _ fun x _ => by simp [bne]
  have e4 : earlyB evs = !q4 := by
    rw [← h4]
    exact bool_any evs _ _ fun x _ => by
      rw [Bool.eq_iff_iff]
      simp
  unfold badN
  rw [e1, e2, e4, ← h5]
  cases q1 <;> cases q2 <;> cases q4 <;> simp
end Go.Proofs.Lh
namespace Go.Proofs.Ytpdhkpgnajfobaa
open Go.RowKit Go.Shelf Go.Proofs.Rw Go.Proofs.Lh Go.Proofs.Rn

attribute [local go_sem] Oper.semAt_some

set_option maxHeartbeats 4000000 in
theorem no_any (xs : List Hx) (evs : List Ev) (hl : xs.length ≤ 1000000) (hle : evs.length ≤ 1000000) (hf : Fits3 evs) (hg : ∀ x ∈ xs, x.g ≤ 4) (hm : ∀ x ∈ xs, x.ls.length ≤ 60 ∧ tot x.ls ≤ 4611686018427387904) (w : World) (A A2 : Option Addr) (c c2 : Nat)
    (h : Hs w w.heap.size (.slice A xs.length c) xs) (h2 : Lies evL w w.heap.size (.slice A2 evs.length c2) evs) :
    Calls Try.prog 47 #[.slice A2 evs.length c2, .slice A xs.length c] w fun e w' => e = .returned (.int .i64 (badN evs (xs.map Hx.m) : Int)) ∧ Below w.heap.size w w' := by
  obtain ⟨q1, hq1⟩ : ∃ q, (evs.any fun x => x.2.2 == 0) = q := ⟨_, rfl⟩
  obtain ⟨k0, hk0⟩ : ∃ k, kOne (xs.map Hx.m) = k := ⟨_, rfl⟩
  have hk1 : ∀ (hx : 0 < xs.length), xs[0].k = k0 := by
    intro hx
    rw [← hk0]
    cases xs with
    | nil => simp at hx
    | cons x xs => rfl
  obtain ⟨q2, hq2⟩ : ∃ q, (xs.any fun x => x.k != k0) = q := ⟨_, rfl⟩
  obtain ⟨q4, hq4⟩ : ∃ q, (evs.any fun x => decide (9223372036854775807 < x.1)) = q := ⟨_, rfl⟩
  obtain ⟨q5, hq5⟩ : ∃ q, decide (4503599627370496 < totM (xs.map Hx.m) + totE evs) = q := ⟨_, rfl⟩
  have hbad := bad_asks evs (xs.map Hx.m) q1 q2 q4 q5 hq1 (by rw [hk0, List.any_map]; exact hq2) hq4 hq5
  obtain ⟨G, hG⟩ : ∃ G, gmax (xs.map Hx.m) = G := ⟨_, rfl⟩
  have hG0 : 0 ≤ G := by rw [← hG]; exact gmax_nonneg _
  have hG4 : G ≤ 4 := by
    rw [← hG]
    refine gmax_le (by omega) fun m hm' => ?_
    obtain ⟨x, hx, rfl⟩ := List.mem_map.1 hm'
    exact hg x hx
  rw [hG, List.length_map] at hbad
  obtain ⟨C, hC⟩ : ∃ C, badN evs (xs.map Hx.m) = C := ⟨_, rfl⟩
  rw [hC] at hbad ⊢
  have b0 : Below w.heap.size w (w.alloc (.cells #[.slice A xs.length c] 62)) := (Below.refl _ w).alloc (Nat.le_refl _) _
  have p0 : (w.alloc (.cells #[.slice A xs.length c] 62)).heap[w.heap.size]? = some (.cells #[.slice A xs.length c] 62) := heap_alloc_new w _
  have eg1 : ∀ args w, (callFunc 73 args).run Try.prog w = .ok (.enter 73 args) w := enters_of Try.func73 (by kernel_rfl) rfl
  have eg3 : ∀ args w, (callFunc 75 args).run Try.prog w = .ok (.enter 75 args) w := enters_of Try.func75 (by kernel_rfl) rfl
  have c1 := fun (W : World) (hW : Below w.heap.size w W) => econtains_any noweight_any eg1 evs hle hf W A2 c2 ((h2.below hW).mono hW.size)
  have c2' := fun (W : World) (hW : Below w.heap.size w W) (hx : W.heap[w.heap.size]? = some (.cells #[.slice A xs.length c] 62)) => hcontains_any xs hl k0 W A c w.heap.size ((h.below hW).mono hW.size) hk1 hx
  have c3 := fun (W : World) (hW : Below w.heap.size w W) => ggen_any xs hl hg W A c ((h.below hW).mono hW.size)
  have c4 := fun (W : World) (hW : Below w.heap.size w W) => econtains_any beyond_any eg3 evs hle hf W A2 c2 ((h2.below hW).mono hW.size)
  have c5 := fun (W : World) => weights_any A A2 xs.length evs.length c c2 W
  have c6 := fun (n0 : Nat) (W : World) (hW : Below w.heap.size w W) (be bh : Nat) (he : be < W.heap.size) (hh : bh < W.heap.size) (hbe : W.heap[be]? = some (.cells #[.slice A2 evs.length c2] 61)) (hbh : W.heap[bh]? = some (.cells #[.slice A xs.length c] 62)) =>
    (callsIn_wide (n := 5)).1 (tooR_in 5 (by omega) (wtsOf evs (xs.map Hx.m)) (by
      intro x hx
      unfold wtsOf at hx
      rcases List.mem_append.1 hx with hx | hx
      · obtain ⟨m, hm1, rfl⟩ := List.mem_map.1 hx
        obtain ⟨y, hy, rfl⟩ := List.mem_map.1 hm1
        have := (hm y hy).2
        show tot y.ls < _
        omega
      · obtain ⟨e, he, rfl⟩ := List.mem_map.1 hx
        exact (hf e he).2.2) _ W (weights1_in 4 (by omega) W.heap.size be bh xs evs hl hle hm W (Nat.le_refl _) A A2 c c2 ((h.below hW).mono hW.size) ((h2.below hW).mono hW.size) hbe hbh he hh))
  rw [wts_sum] at c6
  simp only [hq1, hq2, hq4, hq5, hG] at c1 c2' c3 c4 c6
  obtain ⟨N, hN⟩ : ∃ N, xs.length = N := ⟨_, rfl⟩
  obtain ⟨N2, hN2⟩ : ∃ N, evs.length = N := ⟨_, rfl⟩
  rw [hN] at b0 p0 hbad hl ⊢
  rw [hN2] at ⊢
  simp only [hN, hN2] at c1 c2' c3 c4 c5 c6
  have B0 := Lib.hid b0
  have P0 := Lib.hid p0
  have C1 := Lib.hid c1
  have C2 := Lib.hid c2'
  have C3 := Lib.hid c3
  have C4 := Lib.hid c4
  have C5 := Lib.hid c5
  have C6 := Lib.hid c6
  clear b0 p0 c1 c2' c3 c4 c5 c6 hq1 hq2 hq4 hq5 hG hk0 hk1 hf hg hm h h2 hC hN hN2
  by_cases h0 : N = 0
  · have hc : C = 1 := by rw [hbad, if_pos (.inl h0)]
    have HC := Lib.hid hc
    subst h0
    clear hbad hc
    go_enter Try.func47, Try.ntmps47
    go_wp2
    go_ret
    exact ⟨by rw [HC.out]; rfl, B0.out⟩
  have hN0 : ((N : Int) == 0) = false := by rw [beq_eq_false_iff_ne]; omega
  cases q1 with
  | true =>
    have hc : C = 1 := by rw [hbad, if_pos (.inr rfl)]
    have HC := Lib.hid hc
    clear hbad hc
    go_enter Try.func47, Try.ntmps47
    go_wp2_with (first
      | (go_at_call 76; (with_reducible refine (C1.out _ B0.out).mono ?_); rintro e w1 ⟨rfl, hb1⟩; have B1 := Lib.hid (thn B0.out hb1); have p1 := (hb1.block w.heap.size (lt_of P0.out)).trans P0.out; have p1c := (box1 p1).1; have P1 := Lib.hid p1; clear hb1 p1)
      | (go_at_call 77; (with_reducible refine (C2.out _ B1.out P1.out).mono ?_); rintro e w2 ⟨rfl, hb2⟩; have B2 := Lib.hid (thn B1.out hb2); have p2 := (hb2.block w.heap.size (lt_of P1.out)).trans P1.out; have p2c := (box1 p2).1; have P2 := Lib.hid p2; clear hb2 p2)
      | (go_at_call 51; (with_reducible refine (C3.out _ B2.out).mono ?_); rintro e w3 ⟨rfl, hb3⟩; have B3 := Lib.hid (thn B2.out hb3); have p3 := (hb3.block w.heap.size (lt_of P2.out)).trans P2.out; have P3 := Lib.hid p3; clear hb3 p3)
      | (go_at_call 76; (with_reducible refine (C4.out _ B3.out).mono ?_); rintro e w4 ⟨rfl, hb4⟩; have B4 := Lib.hid (thn B3.out hb4); have p4 := (hb4.block w.heap.size (lt_of P3.out)).trans P3.out; have p4c := (box1 p4).1; have P4 := Lib.hid p4; clear hb4 p4)
      | (go_at_call 79; (with_reducible refine (C5.out _).mono ?_); rintro e w' ⟨rfl, rfl⟩; obtain ⟨w5, hw5, hz5, s0, s1, hb5⟩ := heap_two w4 (.cells #[.slice A2 N2 c2] 61) (.cells #[.slice A N c] 62); rw [← hw5]; have B5 := Lib.hid (thn B4.out hb5); have S0 := Lib.hid s0; have S1 := Lib.hid s1; have HZ := Lib.hid hz5; clear hb5 s0 s1 hw5 hz5)
      | (go_at_call 78; refine (C6.out 0 w5 B5.out w4.heap.size (w4.heap.size + 1) (by have := HZ.out; omega) (by have := HZ.out; omega) S0.out S1.out).mono ?_; rintro e w6 ⟨rfl, hb6⟩; have B6 := Lib.hid (thn B5.out hb6); clear hb6))
    go_ret
    exact ⟨by rw [HC.out]; rfl, B1.out⟩
  | false =>
  rw [if_neg (by simp [h0])] at hbad
  cases q2 with
  | true =>
    have hc : C = 9 := by rw [hbad, if_pos rfl]
    have HC := Lib.hid hc
    clear hbad hc
    go_enter Try.func47, Try.ntmps47
    go_wp2_with (first
      | (go_at_call 76; (with_reducible refine (C1.out _ B0.out).mono ?_); rintro e w1 ⟨rfl, hb1⟩; have B1 := Lib.hid (thn B0.out hb1); have p1 := (hb1.block w.heap.size (lt_of P0.out)).trans P0.out; have p1c := (box1 p1).1; have P1 := Lib.hid p1; clear hb1 p1)
      | (go_at_call 77; (with_reducible refine (C2.out _ B1.out P1.out).mono ?_); rintro e w2 ⟨rfl, hb2⟩; have B2 := Lib.hid (thn B1.out hb2); have p2 := (hb2.block w.heap.size (lt_of P1.out)).trans P1.out; have p2c := (box1 p2).1; have P2 := Lib.hid p2; clear hb2 p2)
      | (go_at_call 51; (with_reducible refine (C3.out _ B2.out).mono ?_); rintro e w3 ⟨rfl, hb3⟩; have B3 := Lib.hid (thn B2.out hb3); have p3 := (hb3.block w.heap.size (lt_of P2.out)).trans P2.out; have P3 := Lib.hid p3; clear hb3 p3)
      | (go_at_call 76; (with_reducible refine (C4.out _ B3.out).mono ?_); rintro e w4 ⟨rfl, hb4⟩; have B4 := Lib.hid (thn B3.out hb4); have p4 := (hb4.block w.heap.size (lt_of P3.out)).trans P3.out; have p4c := (box1 p4).1; have P4 := Lib.hid p4; clear hb4 p4)
      | (go_at_call 79; (with_reducible refine (C5.out _).mono ?_); rintro e w' ⟨rfl, rfl⟩; obtain ⟨w5, hw5, hz5, s0, s1, hb5⟩ := heap_two w4 (.cells #[.slice A2 N2 c2] 61) (.cells #[.slice A N c] 62); rw [← hw5]; have B5 := Lib.hid (thn B4.out hb5); have S0 := Lib.hid s0; have S1 := Lib.hid s1; have HZ := Lib.hid hz5; clear hb5 s0 s1 hw5 hz5)
      | (go_at_call 78; refine (C6.out 0 w5 B5.out w4.heap.size (w4.heap.size + 1) (by have := HZ.out; omega) (by have := HZ.out; omega) S0.out S1.out).mono ?_; rintro e w6 ⟨rfl, hb6⟩; have B6 := Lib.hid (thn B5.out hb6); clear hb6))
    go_ret
    exact ⟨by rw [HC.out]; rfl, B2.out⟩
  | false =>
  rw [if_neg (by simp)] at hbad
  by_cases hG : 4 ≤ G
  · have hc : C = 10 := by rw [hbad, if_pos hG]
    have HC := Lib.hid hc
    clear hbad hc
    go_enter Try.func47, Try.ntmps47
    go_wp2_with (first
      | (go_at_call 76; (with_reducible refine (C1.out _ B0.out).mono ?_); rintro e w1 ⟨rfl, hb1⟩; have B1 := Lib.hid (thn B0.out hb1); have p1 := (hb1.block w.heap.size (lt_of P0.out)).trans P0.out; have p1c := (box1 p1).1; have P1 := Lib.hid p1; clear hb1 p1)
      | (go_at_call 77; (with_reducible refine (C2.out _ B1.out P1.out).mono ?_); rintro e w2 ⟨rfl, hb2⟩; have B2 := Lib.hid (thn B1.out hb2); have p2 := (hb2.block w.heap.size (lt_of P1.out)).trans P1.out; have p2c := (box1 p2).1; have P2 := Lib.hid p2; clear hb2 p2)
      | (go_at_call 51; (with_reducible refine (C3.out _ B2.out).mono ?_); rintro e w3 ⟨rfl, hb3⟩; have B3 := Lib.hid (thn B2.out hb3); have p3 := (hb3.block w.heap.size (lt_of P2.out)).trans P2.out; have P3 := Lib.hid p3; clear hb3 p3)
      | (go_at_call 76; (with_reducible refine (C4.out _ B3.out).mono ?_); rintro e w4 ⟨rfl, hb4⟩; have B4 := Lib.hid (thn B3.out hb4); have p4 := (hb4.block w.heap.size (lt_of P3.out)).trans P3.out; have p4c := (box1 p4).1; have P4 := Lib.hid p4; clear hb4 p4)
      | (go_at_call 79; (with_reducible refine (C5.out _).mono ?_); rintro e w' ⟨rfl, rfl⟩; obtain ⟨w5, hw5, hz5, s0, s1, hb5⟩ := heap_two w4 (.cells #[.slice A2 N2 c2] 61) (.cells #[.slice A N c] 62); rw [← hw5]; have B5 := Lib.hid (thn B4.out hb5); have S0 := Lib.hid s0; have S1 := Lib.hid s1; have HZ := Lib.hid hz5; clear hb5 s0 s1 hw5 hz5)
      | (go_at_call 78; refine (C6.out 0 w5 B5.out w4.heap.size (w4.heap.size + 1) (by have := HZ.out; omega) (by have := HZ.out; omega) S0.out S1.out).mono ?_; rintro e w6 ⟨rfl, hb6⟩; have B6 := Lib.hid (thn B5.out hb6); clear hb6))
    go_ret
    exact ⟨by rw [HC.out]; rfl, B3.out⟩
  rw [if_neg hG] at hbad
  cases q4 with
  | true =>
    have hc : C = 6 := by rw [hbad, if_pos rfl]
    have HC := Lib.hid hc
    clear hbad hc
    go_enter Try.func47, Try.ntmps47
    go_wp2_with (first
      | (go_at_call 76; (with_reducible refine (C1.out _ B0.out).mono ?_); rintro e w1 ⟨rfl, hb1⟩; have B1 := Lib.hid (thn B0.out hb1); have p1 := (hb1.block w.heap.size (lt_of P0.out)).trans P0.out; have p1c := (box1 p1).1; have P1 := Lib.hid p1; clear hb1 p1)
      | (go_at_call 77; (with_reducible refine (C2.out _ B1.out P1.out).mono ?_); rintro e w2 ⟨rfl, hb2⟩; have B2 := Lib.hid (thn B1.out hb2); have p2 := (hb2.block w.heap.size (lt_of P1.out)).trans P1.out; have p2c := (box1 p2).1; have P2 := Lib.hid p2; clear hb2 p2)
      | (go_at_call 51; (with_reducible refine (C3.out _ B2.out).mono ?_); rintro e w3 ⟨rfl, hb3⟩; have B3 := Lib.hid (thn B2.out hb3); have p3 := (hb3.block w.heap.size (lt_of P2.out)).trans P2.out; have P3 := Lib.hid p3; clear hb3 p3)
      | (go_at_call 76; (with_reducible refine (C4.out _ B3.out).mono ?_); rintro e w4 ⟨rfl, hb4⟩; have B4 := Lib.hid (thn B3.out hb4); have p4 := (hb4.block w.heap.size (lt_of P3.out)).trans P3.out; have p4c := (box1 p4).1; have P4 := Lib.hid p4; clear hb4 p4)
      | (go_at_call 79; (with_reducible refine (C5.out _).mono ?_); rintro e w' ⟨rfl, rfl⟩; obtain ⟨w5, hw5, hz5, s0, s1, hb5⟩ := heap_two w4 (.cells #[.slice A2 N2 c2] 61) (.cells #[.slice A N c] 62); rw [← hw5]; have B5 := Lib.hid (thn B4.out hb5); have S0 := Lib.hid s0; have S1 := Lib.hid s1; have HZ := Lib.hid hz5; clear hb5 s0 s1 hw5 hz5)
      | (go_at_call 78; refine (C6.out 0 w5 B5.out w4.heap.size (w4.heap.size + 1) (by have := HZ.out; omega) (by have := HZ.out; omega) S0.out S1.out).mono ?_; rintro e w6 ⟨rfl, hb6⟩; have B6 := Lib.hid (thn B5.out hb6); clear hb6))
    go_ret
    exact ⟨by rw [HC.out]; rfl, B4.out⟩
  | false =>
  rw [if_neg (by simp)] at hbad
  cases q5 with
  | true =>
    have hc : C = 5 := by rw [hbad, if_pos rfl]
    have HC := Lib.hid hc
    clear hbad hc
    go_enter Try.func47, Try.ntmps47
    go_wp2_with (first
      | (go_at_call 76; (with_reducible refine (C1.out _ B0.out).mono ?_); rintro e w1 ⟨rfl, hb1⟩; have B1 := Lib.hid (thn B0.out hb1); have p1 := (hb1.block w.heap.size (lt_of P0.out)).trans P0.out; have p1c := (box1 p1).1; have P1 := Lib.hid p1; clear hb1 p1)
      | (go_at_call 77; (with_reducible refine (C2.out _ B1.out P1.out).mono ?_); rintro e w2 ⟨rfl, hb2⟩; have B2 := Lib.hid (thn B1.out hb2); have p2 := (hb2.block w.heap.size (lt_of P1.out)).trans P1.out; have p2c := (box1 p2).1; have P2 := Lib.hid p2; clear hb2 p2)
      | (go_at_call 51; (with_reducible refine (C3.out _ B2.out).mono ?_); rintro e w3 ⟨rfl, hb3⟩; have B3 := Lib.hid (thn B2.out hb3); have p3 := (hb3.block w.heap.size (lt_of P2.out)).trans P2.out; have P3 := Lib.hid p3; clear hb3 p3)
      | (go_at_call 76; (with_reducible refine (C4.out _ B3.out).mono ?_); rintro e w4 ⟨rfl, hb4⟩; have B4 := Lib.hid (thn B3.out hb4); have p4 := (hb4.block w.heap.size (lt_of P3.out)).trans P3.out; have p4c := (box1 p4).1; have P4 := Lib.hid p4; clear hb4 p4)
      | (go_at_call 79; (with_reducible refine (C5.out _).mono ?_); rintro e w' ⟨rfl, rfl⟩; obtain ⟨w5, hw5, hz5, s0, s1, hb5⟩ := heap_two w4 (.cells #[.slice A2 N2 c2] 61) (.cells #[.slice A N c] 62); rw [← hw5]; have B5 := Lib.hid (thn B4.out hb5); have S0 := Lib.hid s0; have S1 := Lib.hid s1; have HZ := Lib.hid hz5; clear hb5 s0 s1 hw5 hz5)
      | (go_at_call 78; refine (C6.out 0 w5 B5.out w4.heap.size (w4.heap.size + 1) (by have := HZ.out; omega) (by have := HZ.out; omega) S0.out S1.out).mono ?_; rintro e w6 ⟨rfl, hb6⟩; have B6 := Lib.hid (thn B5.out hb6); clear hb6))
    go_ret
    exact ⟨by rw [HC.out]; rfl, B6.out⟩
  | false =>
    have hc : C = 0 := by rw [hbad, if_neg (by simp)]
    have HC := Lib.hid hc
    clear hbad hc
    go_enter Try.func47, Try.ntmps47
    go_wp2_with (first
      | (go_at_call 76; (with_reducible refine (C1.out _ B0.out).mono ?_); rintro e w1 ⟨rfl, hb1⟩; have B1 := Lib.hid (thn B0.out hb1); have p1 := (hb1.block w.heap.size (lt_of P0.out)).trans P0.out; have p1c := (box1 p1).1; have P1 := Lib.hid p1; clear hb1 p1)
      | (go_at_call 77; (with_reducible refine (C2.out _ B1.out P1.out).mono ?_); rintro e w2 ⟨rfl, hb2⟩; have B2 := Lib.hid (thn B1.out hb2); have p2 := (hb2.block w.heap.size (lt_of P1.out)).trans P1.out; have p2c := (box1 p2).1; have P2 := Lib.hid p2; clear hb2 p2)
      | (go_at_call 51; (with_reducible refine (C3.out _ B2.out).mono ?_); rintro e w3 ⟨rfl, hb3⟩; have B3 := Lib.hid (thn B2.out hb3); have p3 := (hb3.block w.heap.size (lt_of P2.out)).trans P2.out; have P3 := Lib.hid p3; clear hb3 p3)
      | (go_at_call 76; (with_reducible refine (C4.out _ B3.out).mono ?_); rintro e w4 ⟨rfl, hb4⟩; have B4 := Lib.hid (thn B3.out hb4); have p4 := (hb4.block w.heap.size (lt_of P3.out)).trans P3.out; have p4c := (box1 p4).1; have P4 := Lib.hid p4; clear hb4 p4)
      | (go_at_call 79; (with_reducible refine (C5.out _).mono ?_); rintro e w' ⟨rfl, rfl⟩; obtain ⟨w5, hw5, hz5, s0, s1, hb5⟩ := heap_two w4 (.cells #[.slice A2 N2 c2] 61) (.cells #[.slice A N c] 62); rw [← hw5]; have B5 := Lib.hid (thn B4.out hb5); have S0 := Lib.hid s0; have S1 := Lib.hid s1; have HZ := Lib.hid hz5; clear hb5 s0 s1 hw5 hz5)
      | (go_at_call 78; refine (C6.out 0 w5 B5.out w4.heap.size (w4.heap.size + 1) (by have := HZ.out; omega) (by have := HZ.out; omega) S0.out S1.out).mono ?_; rintro e w6 ⟨rfl, hb6⟩; have B6 := Lib.hid (thn B5.out hb6); clear hb6))
    go_ret
    exact ⟨by rw [HC.out]; rfl, B6.out⟩

end Go.Proofs.Ytpdhkpgnajfobaa
end
section
/- The document's: weighed, bad. -/
namespace Go.Proofs.Lh
theorem all_take {α : Type} (p : α → Bool) {l : List α} {j : Nat} (h : j < l.length) : (l.take (j + 1)).all p = ((l.take j).all p && p l[j]) := by
  rw [List.take_succ_eq_append_getElem h, List.all_append]
  simp
theorem totE_take {evs : List Ev} {j : Nat} (h : j < evs.length) : totE (evs.take (j + 1)) = totE (evs.take j) + evs[j].2.2 := by
  unfold totE
  rw [List.take_succ_eq_append_getElem h, List.map_append, List.sum_append]
  simp
theorem totM_take {ms : List Hm} {j : Nat} (h : j < ms.length) : totM (ms.take (j + 1)) = totM (ms.take j) + tot ms[j].2.2 := by
  unfold totM
  rw [List.take_succ_eq_append_getElem h, List.map_append, List.sum_append]
  simp
theorem totM_le {ms : List Hm} {B : Nat} (h : ∀ m ∈ ms, tot m.2.2 ≤ B) : totM ms ≤ ms.length * B := by
  induction ms with
  | nil => simp [totM]
  | cons m ms ih =>
    have h1 := ih fun x hx => h x (List.mem_cons_of_mem _ hx)
    have h2 := h m List.mem_cons_self
    have e : totM (m :: ms) = tot m.2.2 + totM ms := by simp [totM]
    rw [e, List.length_cons, Nat.add_mul]
    omega
end Go.Proofs.Lh
namespace Go.Proofs.Ytpdhkpgnajfobaa
open Go.RowKit Go.Shelf Go.Proofs.Rw Go.Proofs.Lh

set_option maxHeartbeats 4000000 in
theorem weighed_any (evs : List Ev) (hle : evs.length ≤ 1000000) (hf : Fits3 evs) (w : World) (B : Nat) (hB : B ≤ w.heap.size) (A2 : Option Addr) (c2 : Nat) (h2 : Lies evL w B (.slice A2 evs.length c2) evs) :
    Calls Try.prog 85 #[.slice A2 evs.length c2] w fun e w' => e = .returned (.tuple #[.bool (lightB evs), .bool (earlyB evs), .int .u64 ((min (totE evs) 4503599627370497 : Nat) : Int)]) ∧ w = w' := by
  obtain ⟨N, hN⟩ : ∃ N, evs.length = N := ⟨_, rfl⟩
  have HE := Lib.hid h2
  have HF := Lib.hid hf
  rw [hN] at HE hle ⊢
  have HN := Lib.hid hN
  clear h2 hN hf
  go_enter Try.func85, Try.ntmps85
  go_wp2
  go_loop [5, 6, 7, 8] (fun a b s p => ∃ j : Nat, p = .int .i64 (j : Int) ∧ j ≤ N ∧ a = .bool (lightB (evs.take j)) ∧ b = .bool (earlyB (evs.take j)) ∧ s = .int .u64 ((min (totE (evs.take j)) 4503599627370497 : Nat) : Int)) (fun _ _ _ p => N - (intOf p).toNat)
  case atStart => exact ⟨0, rfl, Nat.zero_le _, by simp [lightB], by simp [earlyB], by simp [totE]⟩
  case round =>
    obtain ⟨j, rfl, hj, rfl, rfl, rfl⟩ := hrel
    by_cases hlt : j < N
    · have hjl : j < evs.length := by rw [HN.out]; exact hlt
      obtain ⟨b2, off2, rfl, hb2, -, hc2⟩ := ev_at HE.out (by omega)
      obtain ⟨e0, e1, e2⟩ := hc2 j hjl
      obtain ⟨z0, z1, z2⟩ := HF.out evs[j] (List.getElem_mem hjl)
      have s1 := all_take (fun e : Ev => e.2.2 != 0) hjl
      have s2 := all_take (fun e : Ev => decide (e.1 ≤ 9223372036854775807)) hjl
      have s3 := totE_take hjl
      obtain ⟨x, hx⟩ : ∃ x, evs[j] = x := ⟨_, rfl⟩
      rw [hx] at e0 e1 e2 z0 z1 z2 s1 s2 s3
      have hbb : b2 < w.heap.size := by omega
      obtain ⟨q1, hq1⟩ : ∃ q, lightB (evs.take j) = q := ⟨_, rfl⟩
      obtain ⟨q2, hq2⟩ : ∃ q, earlyB (evs.take j) = q := ⟨_, rfl⟩
      obtain ⟨S, hS⟩ : ∃ S, totE (evs.take j) = S := ⟨_, rfl⟩
      obtain ⟨M, hM⟩ : ∃ M, min S 4503599627370497 = M := ⟨_, rfl⟩
      have t1 : lightB (evs.take (j + 1)) = (q1 && (x.2.2 != 0)) := by rw [← hq1]; exact s1
      have t2 : earlyB (evs.take (j + 1)) = (q2 && decide (x.1 ≤ 9223372036854775807)) := by rw [← hq2]; exact s2
      rw [hS] at s3
      have hM0 : M ≤ 4503599627370497 := by omega
      obtain ⟨d, hd⟩ : ∃ d, min x.2.2 4503599627370497 = d := ⟨_, rfl⟩
      have t3 : min (totE (evs.take (j + 1))) 4503599627370497 = min (M + d) 4503599627370497 := by rw [s3]; omega
      rw [hq1, hq2, hS, hM]
      obtain ⟨b1, hb1⟩ : ∃ b, (x.2.2 != 0) = b := ⟨_, rfl⟩
      obtain ⟨b3, hb3⟩ : ∃ b, decide (x.1 ≤ 9223372036854775807) = b := ⟨_, rfl⟩
      rw [hb1] at t1
      rw [hb3] at t2
      have g1 : decide ((0 : Int) < (x.2.2 : Int)) = b1 := by
        rw [← hb1, Bool.eq_iff_iff]
        simp
        omega
      have g1' : decide (0 < x.2.2) = b1 := by
        rw [← hb1, Bool.eq_iff_iff]
        simp
        omega
      have g3 : decide ((x.1 : Int) ≤ 9223372036854775807) = b3 := by
        rw [← hb3, Bool.eq_iff_iff]
        simp
        omega
      have T1 := Lib.hid t1
      have T2 := Lib.hid t2
      have T3 := Lib.hid t3
      have hdl : d ≤ 4503599627370497 := by omega
      generalize x.1 = x0 at *
      generalize x.2.1 = x1 at *
      generalize x.2.2 = x2 at *
      have HD := Lib.hid hd
      clear hc2 s1 s2 s3 hq1 hq2 hS hM hx hb1 hb3 t1 t2 t3 hjl hd
      cases q1 <;> cases q2 <;> cases b1 <;> cases b3 <;>
      (go_wp2
       all_goals
         refine ⟨⟨j + 1, by go_num, hlt, by rw [T1.out]; rfl, by rw [T2.out]; rfl, ?_⟩, by simp [intOf]; omega⟩
         rw [T3.out]
         have := HD.out
         first | rfl | (congr 1; omega))
    · have e : j = N := by omega
      subst e
      rw [← HN.out, List.take_length]
      go_wp2
      refine bodyPost_ret (results_tmp3 rfl _ _ _) rfl ⟨rfl, rfl⟩

set_option maxRecDepth 100000 in
set_option maxHeartbeats 4000000 in
theorem rbad10_any (xs : List Hx) (evs : List Ev) (hl : xs.length ≤ 16) (hle : evs.length ≤ 1000) (hf : Fits3 evs) (hg : ∀ x ∈ xs, x.g ≤ 4) (hm : ∀ x ∈ xs, x.ls.length ≤ 60 ∧ tot x.ls ≤ 4503599627370496) (w : World) (A A2 : Option Addr) (c c2 : Nat)
    (h : Hs w w.heap.size (.slice A xs.length c) xs) (h2 : Lies evL w w.heap.size (.slice A2 evs.length c2) evs) :
    Calls Try.prog 52 #[.slice A2 evs.length c2, .slice A xs.length c] w fun e w' => e = .returned (.int .i64 (badN evs (xs.map Hx.m) : Int)) ∧ Below w.heap.size w w' := by
  obtain ⟨ms, hms⟩ : ∃ ms, xs.map Hx.m = ms := ⟨_, rfl⟩
  have hml : ms.length = xs.length := by rw [← hms]; simp
  have hmj : ∀ j (hj : j < xs.length), ms[j]'(by omega) = xs[j].m := by intro j hj; simp only [← hms, List.getElem_map]
  have hkone : ∀ h0 : 0 < xs.length, kOne ms = xs[0].k := by
    intro h0
    subst hms
    cases xs with
    | nil => simp at h0
    | cons x xs => rfl
  have hall : ∀ k0, (∀ i (hi : i < xs.length), xs[i].k = k0) → 0 < xs.length → alikeB ms = true := by
    intro k0 hk h0
    unfold alikeB
    rw [List.all_eq_true]
    intro m hm'
    rw [hkone h0, hk 0 h0]
    rw [← hms] at hm'
    obtain ⟨x, hx, rfl⟩ := List.mem_map.1 hm'
    obtain ⟨i, hi, rfl⟩ := List.getElem_of_mem hx
    have e1 := hk i hi
    show (xs[i].k == k0) = true
    rw [e1]
    simp
  have hnot : ∀ j (hj : j < xs.length), xs[j].k ≠ (xs[0]'(by omega)).k → alikeB ms = false := by
    intro j hj hne
    rw [Bool.eq_false_iff]
    intro hh
    unfold alikeB at hh
    rw [List.all_eq_true] at hh
    have := hh xs[j].m (by rw [← hms]; exact List.mem_map.2 ⟨_, List.getElem_mem hj, rfl⟩)
    rw [hkone (by omega)] at this
    have e4 : (xs[j].m).1 = xs[j].k := rfl
    rw [e4] at this
    simp at this
    exact hne this
  have hwe := weighed_any evs (by omega) hf w w.heap.size (Nat.le_refl _) A2 c2 h2
  obtain ⟨C, hC⟩ : ∃ C, badN evs ms = C := ⟨_, rfl⟩
  rw [hms, hC]
  unfold badN at hC
  rw [hml] at hC
  obtain ⟨q1, hq1⟩ : ∃ q, lightB evs = q := ⟨_, rfl⟩
  obtain ⟨q4, hq4⟩ : ∃ q, earlyB evs = q := ⟨_, rfl⟩
  obtain ⟨M, hM⟩ : ∃ M, min (totE evs) 4503599627370497 = M := ⟨_, rfl⟩
  rw [hq1, hq4, hM] at hwe
  rw [hq1, hq4] at hC
  obtain ⟨N, hN⟩ : ∃ N, xs.length = N := ⟨_, rfl⟩
  obtain ⟨N2, hN2⟩ : ∃ N, evs.length = N := ⟨_, rfl⟩
  rw [hN2] at hwe ⊢
  have HWE := Lib.hid hwe
  have HCC := Lib.hid hC
  clear hwe hC hq1 hq4 h2
  by_cases h0 : N = 0
  · have hc : C = 1 := by rw [← HCC.out, if_pos (.inl (by omega))]
    rw [hN, h0]
    have HC := Lib.hid hc
    clear hc h0 h hN hml hmj hall hnot hm hg hl
    go_enter Try.func52, Try.ntmps52
    go_wp2_with (go_at_call 85; refine HWE.out.mono ?_; rintro e w' ⟨rfl, rfl⟩)
    go_ret
    exact ⟨by rw [HC.out]; rfl, Below.refl _ _⟩
  have hN0 : ((N : Int) == 0) = false := by rw [beq_eq_false_iff_ne]; omega
  cases q1 with
  | false =>
    have hc : C = 1 := by rw [← HCC.out, if_pos (.inr rfl)]
    have HC := Lib.hid hc
    rw [hN]
    clear hc h0 h hN hml hmj hall hnot hm hg hl
    go_enter Try.func52, Try.ntmps52
    go_wp2_with (go_at_call 85; refine HWE.out.mono ?_; rintro e w' ⟨rfl, rfl⟩)
    go_ret
    exact ⟨by rw [HC.out]; rfl, Below.refl _ _⟩
  | true =>
    have hx0 : 0 < xs.length := by omega
    obtain ⟨b2, off2, rfl, hb2, -, hc2⟩ := h.at hx0
    obtain ⟨z0, -, -, -⟩ := hc2 0 hx0
    obtain ⟨k0, hk0⟩ : ∃ k, xs[0].k = k := ⟨_, rfl⟩
    rw [hk0] at z0
    have hC2 : (if alikeB ms = false then 9 else if 4 ≤ gmax ms then 10 else if q4 = false then 6 else if 4503599627370496 < totM ms + totE evs then 5 else 0) = C := by
      have := HCC.out
      rw [if_neg (by rintro (h | h); · omega
                     · cases h)] at this
      exact this
    have htot := fun (j : Nat) (hj : j < xs.length) (W : World) (hW : Below w.heap.size w W) => rtotal_any xs[j].k xs[j].g xs[j].ls (hm _ (List.getElem_mem hj)).1 (Nat.le_trans (hm _ (List.getElem_mem hj)).2 (by omega)) W xs[j].A xs[j].c ((((h.below hW).mono hW.size).2) _ (List.getElem_mem hj))
    have hnot9 : ∀ j (hj : j < xs.length), xs[j].k ≠ k0 → C = 9 := by
      intro j hj hne
      rw [← hC2, if_pos (hnot j hj (by rw [hk0]; exact hne))]
    have hend : (∀ i (hi : i < xs.length), xs[i].k = k0) → (if 4 ≤ gmax ms then 10 else if q4 = false then 6 else if 4503599627370496 < totM ms + totE evs then 5 else 0) = C := by
      intro hk
      rw [hall k0 hk hx0, if_neg (by simp)] at hC2
      exact hC2
    have hgm : ∀ (j : Nat) (hj : j < xs.length), gmax (ms.take (j + 1)) = max (gmax (ms.take j)) xs[j].g := by
      intro j hj
      rw [gmax_take (ms := ms) (i := j) (by omega), hmj j hj]
      rfl
    have htm : ∀ (j : Nat) (hj : j < xs.length), totM (ms.take (j + 1)) = totM (ms.take j) + tot xs[j].ls := by
      intro j hj
      rw [totM_take (ms := ms) (j := j) (by omega), hmj j hj]
      rfl
    have hbig := fun (j : Nat) => totM_le (ms := ms.take j) (B := 4503599627370496) (fun m hm' => by
      have := List.mem_of_mem_take hm'
      rw [← hms] at this
      obtain ⟨x, hx, rfl⟩ := List.mem_map.1 this
      exact (hm x hx).2)
    have hgle := fun (j : Nat) => gmax_le (ms := ms.take j) (B := 4) (by omega) (fun m hm' => by
      have := List.mem_of_mem_take hm'
      rw [← hms] at this
      obtain ⟨x, hx, rfl⟩ := List.mem_map.1 this
      exact hg x hx)
    have HNOT := Lib.hid hnot9
    have HEND := Lib.hid hend
    have HGM := Lib.hid hgm
    have HTM := Lib.hid htm
    have HBIG := Lib.hid hbig
    have HGLE := Lib.hid hgle
    have HTOT := Lib.hid htot
    have HML := Lib.hid hml
    have HH := Lib.hid h
    have HN := Lib.hid hN
    have HM := Lib.hid hM
    rw [hN] at HH hl ⊢
    have hM0 : M ≤ 4503599627370497 := by omega
    clear hnot9 hend hgm htm hbig hgle htot hmj hml h hN hall hnot hm hg hC2 hc2 hM hk0 hkone
    go_enter Try.func52, Try.ntmps52
    go_wp2_with (go_at_call 85; refine HWE.out.mono ?_; rintro e w' ⟨rfl, rfl⟩)
    go_loopw [8, 9, 10, 11] (fun g s o p wr => ∃ j S : Nat, p = .int .i64 (j : Int) ∧ j ≤ N ∧ g = .int .i64 (gmax (ms.take j)) ∧ s = .int .u64 (S : Int) ∧ o = .bool (decide (4503599627370496 < S)) ∧ Hid (S = M + totM (ms.take j)) ∧ Hid (∀ i (hi : i < xs.length), i < j → xs[i].k = k0) ∧ Hid (Below w.heap.size w wr)) (fun _ _ _ p _ => N - (intOf p).toNat)
    case atStart => exact ⟨0, M, rfl, Nat.zero_le _, by simp [gmax], rfl, by congr 1; rw [Bool.eq_iff_iff]; simp; omega, Lib.hid (by simp [totM]), Lib.hid fun i _ hi => absurd hi (by omega), Lib.hid (Below.refl _ _)⟩
    case round =>
      obtain ⟨j, S, rfl, hj, rfl, rfl, rfl, HS, HK, HB⟩ := hrel
      obtain ⟨G, hG⟩ : ∃ G, gmax (ms.take j) = G := ⟨_, rfl⟩
      have g0 : 0 ≤ G := by rw [← hG]; exact gmax_nonneg _
      have g4 : G ≤ 4 := by rw [← hG]; exact HGLE.out j
      obtain ⟨o, ho⟩ : ∃ o, decide (4503599627370496 < S) = o := ⟨_, rfl⟩
      rw [hG, ho]
      by_cases hlt : j < N
      · have hjl : j < xs.length := by rw [HN.out]; exact hlt
        obtain ⟨b3, off3, e3, hb3, -, hc3⟩ := (HH.out.below HB.out).at (by omega)
        injection e3 with e3
        injection e3 with e31 e32
        subst e31 e32
        obtain ⟨e0, e1, e2, -⟩ := hc3 j hjl
        have z0' := (HB.out.cell (p := ⟨b2, off2, none⟩) hb2).trans z0
        have hgj := HGM.out j hjl
        have htj := HTM.out j hjl
        have htt := HTOT.out j hjl
        have hnj := HNOT.out j hjl
        have hbj := HBIG.out (j + 1)
        have hlen : (ms.take (j + 1)).length ≤ 16 := by have := HML.out; have := HN.out; simp; omega
        have hSS := HS.out
        rw [hG] at hgj
        have hgle := HGLE.out (j + 1)
        obtain ⟨kj, hkj⟩ : ∃ k, xs[j].k = k := ⟨_, rfl⟩
        rw [hkj] at e0 hnj
        simp only [hkj] at htt
        obtain ⟨T, hT⟩ : ∃ T, tot xs[j].ls = T := ⟨_, rfl⟩
        rw [hT] at htj
        simp only [hT] at htt
        generalize xs[j].g = t1 at *
        generalize xs[j].A = t2 at *
        generalize xs[j].ls.length = t3 at *
        generalize xs[j].c = t4 at *
        have hbb : b2 < wr.heap.size := Nat.lt_of_lt_of_le hb2 HB.out.size
        have HTT := Lib.hid htt
        have HNJ := Lib.hid hnj
        have HGJ := Lib.hid hgj
        have HHO := Lib.hid ho
        obtain ⟨S2, hS2⟩ : ∃ S2, S + T = S2 := ⟨_, rfl⟩
        have hS2b : S2 ≤ 80000000000000000 := by
          have : (ms.take (j + 1)).length * 4503599627370496 ≤ 16 * 4503599627370496 := Nat.mul_le_mul_right _ hlen
          omega
        have hS2e : S2 = M + totM (ms.take (j + 1)) := by omega
        have HS2 := Lib.hid hS2
        have HS2E := Lib.hid hS2e
        have HKJ := Lib.hid hkj
        clear hc3 htt hnj hgj htj hbj hlen hSS hT hG ho hgle hS2e z0 hkj hS2
        by_cases hk : kj = k0
        · subst hk
          go_upto_region 10 with (fail)
          go_region
          all_goals
            have hst : (S : Int) + (T : Int) ≤ 80000000000000000 := by have := HS2.out; omega
            cases o with
            | true =>
              have HTW := Lib.hid (HTT.out wr.drew HB.out.drew)
              go_wp2_with (go_at_call 25; refine HTW.out.mono ?_; rintro e w9 ⟨rfl, hb9⟩; have HB9 := Lib.hid hb9; clear hb9)
              refine ⟨⟨j + 1, S2, by go_num, hlt, by rw [HGJ.out]; first | done | (congr 1; split <;> omega), by rw [← HS2.out]; go_num, ?_, HS2E, Lib.hid fun i hi hij => ?_, Lib.hid (thn HB.out.drew HB9.out)⟩, by simp [intOf]; omega⟩
              · have h1 := of_decide_eq_true HHO.out
                have h2 := HS2.out
                rw [decide_eq_true (by omega)]
              · rcases Nat.lt_or_ge i j with h' | h'
                · exact HK.out i hi h'
                · have e : i = j := by omega
                  subst e
                  exact HKJ.out
            | false =>
              have HTW := Lib.hid (HTT.out wr.drew HB.out.drew)
              go_wp2_with (go_at_call 25; refine HTW.out.mono ?_; rintro e w9 ⟨rfl, hb9⟩; have HB9 := Lib.hid hb9; clear hb9)
              refine ⟨⟨j + 1, S2, by go_num, hlt, by rw [HGJ.out]; first | done | (congr 1; split <;> omega), by rw [← HS2.out]; go_num, ?_, HS2E, Lib.hid fun i hi hij => ?_, Lib.hid (thn HB.out.drew HB9.out)⟩, by simp [intOf]; omega⟩
              · have h2 := HS2.out
                congr 1
                rw [Bool.eq_iff_iff]
                simp
                omega
              · rcases Nat.lt_or_ge i j with h' | h'
                · exact HK.out i hi h'
                · have e : i = j := by omega
                  subst e
                  exact HKJ.out
        · have hq : (kj != k0) = true := by simpa using hk
          have h9 := HNJ.out hk
          have H9 := Lib.hid h9
          clear h9 hk
          go_upto_region 10 with (fail)
          go_region
          all_goals
            go_wp2
            go_ret
            exact ⟨by rw [H9.out]; rfl, HB.out.drew⟩
      · have e : j = N := by omega
        subst e
        have hfin := HEND.out fun i hi => HK.out i hi (by rw [← HN.out]; exact hi)
        have hSS := HS.out
        rw [← HN.out, ← HML.out, List.take_length] at hG hSS
        rw [hG] at hfin
        have hov : (4503599627370496 < totM ms + totE evs) ↔ (4503599627370496 < S) := by have := HM.out; omega
        simp only [hov] at hfin
        have HFIN := Lib.hid hfin
        have HHO := Lib.hid ho
        clear hfin hSS hov hG ho z0
        by_cases hg4 : 4 ≤ G
        · have hc : C = 10 := by rw [← HFIN.out, if_pos hg4]
          have HC := Lib.hid hc
          clear hc
          go_wp2
          go_ret
          exact ⟨by rw [HC.out]; rfl, HB.out⟩
        · cases q4 with
          | false =>
            have hc : C = 6 := by rw [← HFIN.out, if_neg hg4, if_pos rfl]
            have HC := Lib.hid hc
            clear hc
            go_wp2
            go_ret
            exact ⟨by rw [HC.out]; rfl, HB.out⟩
          | true =>
            cases o with
            | true =>
              have hc : C = 5 := by rw [← HFIN.out, if_neg hg4, if_neg (by simp), if_pos (of_decide_eq_true HHO.out)]
              have HC := Lib.hid hc
              clear hc
              go_wp2
              go_ret
              exact ⟨by rw [HC.out]; rfl, HB.out⟩
            | false =>
              have hc : C = 0 := by rw [← HFIN.out, if_neg hg4, if_neg (by simp), if_neg (of_decide_eq_false HHO.out)]
              have HC := Lib.hid hc
              clear hc
              go_wp2
              go_ret
              exact ⟨by rw [HC.out]; rfl, HB.out⟩

end Go.Proofs.Ytpdhkpgnajfobaa
end
section
/- replay.ticks, its function that is ranged over: each tick of sorted lots once, with all its weight. -/
namespace Go.Proofs.Rw
open Go Go.RowKit
theorem lies_own {α : Type} {L : Lay α} {w w' : World} {B : Nat} {v : Value} {xs : List α} (h : Lies L w B v xs) (hk : ∀ b, b < B → v.ownBlock = some b → w'.heap[b]? = w.heap[b]?) : Lies L w' B v xs := by
  obtain ⟨A, cap, rfl, h1, h2, h3⟩ := h
  refine ⟨A, cap, rfl, h1, h2, ?_⟩
  rcases h3 with h3 | ⟨b, off, hb, rfl, hc⟩
  · exact .inl h3
  · exact .inr ⟨b, off, hb, rfl, fun j u hu => (World.cell?_of_block (a := ⟨b, off + j, none⟩) (hk b hb rfl)).trans (hc j u hu)⟩
end Go.Proofs.Rw
namespace Go.Proofs.Lh
open Go.Proofs.Lm (Sp)
theorem grp_step {all : List Sp} {g i r t : Nat} (hg : (grp all).drop g = grp (all.drop i)) (hr : 0 < r) (hle : i + r ≤ all.length) (hall : ∀ q (hq : i + q < all.length), q < r → all[i + q].1 = t) (hend : ∀ (h : i + r < all.length), all[i + r].1 ≠ t) :
    (grp all)[g]? = some (t, ((((all.drop i).take r).map fun x => x.2)).sum) ∧ (grp all).drop (g + 1) = grp (all.drop (i + r)) := by
  have e1 : all.drop i = (all.drop i).take r ++ all.drop (i + r) := by rw [← List.drop_drop, List.take_append_drop]
  have hne : (all.drop i).take r ≠ [] := by
    intro e
    have := congrArg List.length e
    simp at this
    omega
  have hrun : ∀ x ∈ (all.drop i).take r, x.1 = t := by
    intro x hx
    obtain ⟨q, hq, rfl⟩ := List.getElem_of_mem hx
    have hq' : q < r ∧ i + q < all.length := by simp at hq; omega
    rw [List.getElem_take, List.getElem_drop]
    exact hall q hq'.2 hq'.1
  have hrest : ∀ y, (all.drop (i + r)).head? = some y → y.1 ≠ t := by
    intro y hy
    rw [List.head?_drop] at hy
    obtain ⟨hl, e⟩ := List.getElem?_eq_some_iff.1 hy
    rw [← e]
    exact hend hl
  have e2 := grp_run t (all.drop (i + r)) hrest _ hne hrun
  rw [← e1, ← hg] at e2
  constructor
  · have := congrArg List.head? e2
    rw [List.head?_drop] at this
    exact this
  · have := congrArg List.tail e2
    rw [List.tail_drop] at this
    exact this
theorem grp_end {all : List Sp} {g : Nat} (hg : (grp all).drop g = grp (all.drop all.length)) (hle : g ≤ (grp all).length) : g = (grp all).length := by
  rw [List.drop_length] at hg
  have := congrArg List.length hg
  rw [List.length_drop] at this
  have e : (grp ([] : List Sp)).length = 0 := rfl
  omega
theorem run_sum {all : List Sp} {i r : Nat} (h : i + r < all.length) : (((all.drop i).take (r + 1)).map fun x => x.2).sum = (((all.drop i).take r).map fun x => x.2).sum + all[i + r].2 := by
  have hl : r < (all.drop i).length := by simp; omega
  rw [List.take_succ_eq_append_getElem hl, List.map_append, List.sum_append, List.getElem_drop]
  simp
theorem run_le (all : List Sp) (i r : Nat) : (((all.drop i).take r).map fun x => x.2).sum ≤ (all.map fun x => x.2).sum := by
  have h1 := sum_take (all.drop i) r
  have e : (all.map fun x => x.2).sum = (((all.take i) ++ (all.drop i)).map fun x => x.2).sum := by rw [List.take_append_drop]
  rw [List.map_append, List.sum_append] at e
  omega
end Go.Proofs.Lh
namespace Go.Proofs.Ytpdhkpgnajfobaa
open Go.RowKit Go.Shelf Go.Proofs.Rw Go.Proofs.Lh Go.Proofs.Rn

attribute [local go_sem] Oper.semAt_some

abbrev encT (x : Sp) : Array Value := #[.int .u64 (x.1 : Int), .int .u64 (x.2 : Int)]
def PxT (all : List Sp) (k : Nat) (x : Sp) (_ : World) : Prop := (grp all)[k]? = some x
/-- Blocks below B stay as they were, but for two. -/
structure Kx (B p q : Nat) (W W' : World) : Prop where
  size : W.heap.size ≤ W'.heap.size
  block : ∀ b, b < B → b ≠ p → b ≠ q → W'.heap[b]? = W.heap[b]?
theorem Kx.refl (B p q : Nat) (W : World) : Kx B p q W W := ⟨Nat.le_refl _, fun _ _ _ _ => rfl⟩
theorem Kx.trans {B p q : Nat} {X Y Z : World} (h : Kx B p q X Y) (k : Kx B p q Y Z) : Kx B p q X Z := ⟨Nat.le_trans h.size k.size, fun b hb h1 h2 => (k.block b hb h1 h2).trans (h.block b hb h1 h2)⟩
theorem Kx.put {B p q : Nat} {w : World} (hB : B ≤ w.heap.size) (W : World) (l : Nat) (o o' : Obj) (hl : w.heap.size ≤ l) (_ : W.heap[l]? = some o) (_ : o.isCells = false) : Kx B p q W (W.putObj l o') :=
  ⟨by simp, fun b hb _ _ => World.putObj_heap_other (by omega)⟩

theorem ticks_any (A : Option Addr) (N c : Nat) (w : World) :
    Calls Try.prog 49 #[.slice A N c] w fun e w' => e = .returned (.func (.func 81) #[] #[.pointer (some ⟨w.heap.size, 0, none⟩)]) ∧ w' = w.alloc (.cells #[.slice A N c] 107) := by
  go_enter Try.func49, Try.ntmps49
  go_wp2
  go_ret
  exact ⟨rfl, rfl⟩

set_option maxRecDepth 100000 in
set_option maxHeartbeats 4000000 in
theorem ticks1_in (n : Nat) (h1n : 1 ≤ n) (B p q bx : Nat) (all : List Sp) (hl : all.length ≤ 10000000) (hs : (all.map fun x => x.2).sum ≤ 4503599627370496) (w : World) (hB : B ≤ w.heap.size) (A : Option Addr) (c : Nat)
    (h : Lies spL w B (.slice A all.length c) all) (hA : ∀ b, (Value.slice A all.length c).ownBlock = some b → b ≠ p ∧ b ≠ q) (hbx : w.heap[bx]? = some (.cells #[.slice A all.length c] 107)) (hxB : bx < B) (hxp : bx ≠ p) (hxq : bx ≠ q) :
    SeqN Fence.wide n Try.prog 81 #[.pointer (some ⟨bx, 0, none⟩)] encT (PxT all) (Kx B p q) (fun m => m = (grp all).length) w := by
  intro l J Jx W hW hJ hJx hY hJ0
  have hL : Lies spL W B (.slice A all.length c) all := lies_own h fun b hb _ => hW.block b (by omega)
  have hc0 : W.heap[bx]? = some (.cells #[.slice A all.length c] 107) := (hW.block bx (by omega)).trans hbx
  obtain ⟨N, hN⟩ : ∃ N, all.length = N := ⟨_, rfl⟩
  rw [hN] at hc0 hl hL hA
  have HN := Lib.hid hN
  have HJ := Lib.hid hJ
  have HY := Lib.hid hY
  have HL := Lib.hid hL
  have HA := Lib.hid hA
  have HW := Lib.hid hW
  have HS := Lib.hid hs
  have HC0 := Lib.hid hc0
  clear hJ hJx hY h hbx hN hW hs hL hA hc0
  refine callsIn_of_wp Try.func81 rfl trivial ?_ rfl
  simp only [Try.ntmps81, List.size_toArray, List.length_cons, List.length_nil, Nat.reduceAdd, Nat.reduceSub, Array.replicate_succ, Array.replicate_zero, List.push_toArray, List.append_toArray, List.nil_append, List.cons_append]
  gi_wp2
  gi_loopw [3] (fun u wr => ∃ i g : Nat, u = .int .i64 (i : Int) ∧ i ≤ N ∧ Hid ((grp all).drop g = grp (all.drop i)) ∧ Hid (g ≤ (grp all).length) ∧ J g wr ∧ Kx B p q W wr) (fun u _ => N - (intOf u).toNat)
  case atStart => exact ⟨0, 0, rfl, Nat.zero_le _, Lib.hid (by simp), Lib.hid (Nat.zero_le _), hJ0, Kx.refl _ _ _ _⟩
  case round =>
    obtain ⟨i, g, rfl, hile, HG, HGL, hJs, hK⟩ := hrel
    have hcb : wr.heap[bx]? = some (.cells #[.slice A N c] 107) := (hK.block bx hxB hxp hxq).trans HC0.out
    have hcc : wr.cell? ⟨bx, 0, none⟩ = some (.slice A N c) := by simp [World.cell?, hcb]
    have hbl := lt_of hcb
    have HK := Lib.hid hK
    have HJS := Lib.hid hJs
    clear hcb hJ0 hK hJs
    by_cases hlt : i < N
    · have hil : i < all.length := by rw [HN.out]; exact hlt
      have hsz : B ≤ wr.heap.size := Nat.le_trans hB (Nat.le_trans HW.out.size HK.out.size)
      obtain ⟨b2, off2, rfl, hb2, -, hc2⟩ := sp_at (lies_own HL.out fun b hb hv => HK.out.block b hb (HA.out b hv).1 (HA.out b hv).2) (by omega)
      have hbb : b2 < wr.heap.size := by omega
      have HC2 := Lib.hid hc2
      obtain ⟨e0, e1⟩ := hc2 i hil
      obtain ⟨t, ht⟩ : ∃ t, all[i].1 = t := ⟨_, rfl⟩
      rw [ht] at e0
      have HT := Lib.hid ht
      clear hc2 ht
      rename World => wo
      gi_wp2
      clear e0 e1
      gi_loopw [3, 5] (fun u s wr => ∃ r : Nat, u = .int .i64 ((i + r : Nat) : Int) ∧ i + r ≤ N ∧ s = .int .u64 ((((all.drop i).take r).map fun x => x.2).sum : Nat) ∧ Hid (∀ q (hq : i + q < all.length), q < r → all[i + q].1 = t) ∧ wr = wo) (fun u _ _ => N - (intOf u).toNat)
      case atStart => exact ⟨0, rfl, by omega, by simp, Lib.hid fun q _ h => absurd h (by omega), (by first | rfl | trivial)⟩
      case round =>
        obtain ⟨r, rfl, hrle, rfl, HALL, hwe⟩ := hrel
        subst hwe
        obtain ⟨m, hm⟩ : ∃ m, i + r = m := ⟨_, rfl⟩
        obtain ⟨s, hse⟩ : ∃ s, (((all.drop i).take r).map fun x => x.2).sum = s := ⟨_, rfl⟩
        have hsl := run_le all i r
        rw [hm] at hrle ⊢
        rw [hse] at hsl ⊢
        have hs52 : s ≤ 4503599627370496 := Nat.le_trans hsl HS.out
        have HM := Lib.hid hm
        have HSE := Lib.hid hse
        clear hm hse hsl
        have done : (∀ h : i + r < all.length, all[i + r].1 ≠ t) → 0 < r → (grp all)[g]? = some (t, s) ∧ (grp all).drop (g + 1) = grp (all.drop m) := by
          intro hend hr
          have := grp_step HG.out hr (by rw [HM.out, HN.out]; exact hrle) HALL.out hend
          rw [HSE.out, HM.out] at this
          exact this
        have DONE := Lib.hid done
        clear done
        have out : ((∀ h : i + r < all.length, all[i + r].1 ≠ t) ∧ 0 < r) → True := fun _ => trivial
        clear out
        by_cases hmt : m < N
        · have hml : m < all.length := by rw [HN.out]; exact hmt
          obtain ⟨e0, e1⟩ := HC2.out m hml
          by_cases htk : all[m].1 = t
          · have hx := run_sum (all := all) (i := i) (r := r) (by rw [HM.out]; exact hml)
            simp only [HM.out] at hx
            rw [HSE.out] at hx
            rw [htk] at e0
            have hx52 := Nat.le_trans (run_le all i (r + 1)) HS.out
            obtain ⟨d, hd⟩ : ∃ d, all[m].2 = d := ⟨_, rfl⟩
            rw [hd] at hx e1
            obtain ⟨s2, hs2⟩ : ∃ s2, (((all.drop i).take (r + 1)).map fun x => x.2).sum = s2 := ⟨_, rfl⟩
            rw [hs2] at hx hx52
            have hsd : (s : Int) + (d : Int) ≤ 4503599627370496 := by omega
            have HX := Lib.hid hx
            have HS2 := Lib.hid hs2
            have HTK := Lib.hid htk
            clear hx hs2 hd hx52 htk
            gi_wp2
            go_roundw
            case rel =>
              refine ⟨r + 1, by have := HM.out; rw [← Nat.add_assoc, this]; go_num, by have := HM.out; omega, by rw [HS2.out, HX.out]; go_num, Lib.hid fun q hq hqr => ?_, (by first | rfl | trivial)⟩
              rcases Nat.lt_or_ge q r with h' | h'
              · exact HALL.out q hq h'
              · have e : q = r := by omega
                subst e
                have := HTK.out
                simp only [HM.out]
                exact this
            case measure => simp [intOf]; omega
          · have hr : 0 < r := by
              rcases Nat.eq_zero_or_pos r with e | e
              · have h1 := HM.out
                have h2 := HT.out
                have e2 : i = m := by omega
                subst e2
                exact absurd h2 htk
              · exact e
            have hnt : ∀ h : i + r < all.length, all[i + r].1 ≠ t := by
              intro h
              simp only [HM.out]
              exact htk
            have hmi : i < m := by have := HM.out; omega
            obtain ⟨t1, ht1⟩ : ∃ t1, all[m].1 = t1 := ⟨_, rfl⟩
            rw [ht1] at e0 htk
            have hqq : ((t1 : Int) == (t : Int)) = false := by rw [beq_eq_false_iff_ne]; omega
            clear ht1
            obtain ⟨d1, d2⟩ := DONE.out hnt hr
            have hgl : g + 1 ≤ (grp all).length := (List.getElem?_eq_some_iff.1 d1).1
            obtain ⟨fn, tmps, assign, body, hy, hR⟩ := HY.out g (t, s) wr HJS.out d1
            have HR := Lib.hid hR
            have D2 := Lib.hid d2
            have HGL2 := Lib.hid hgl
            dsimp only [encT] at hy
            clear hR d1 d2 hgl hnt
            gi_wp2
            refine HR.out.mono ?_
            rintro e W3 (⟨rfl, hJ3, hk3⟩ | ⟨rfl, hJx3⟩)
            · gi_wp2
              go_roundw
              case rel => exact ⟨m, g + 1, rfl, hrle, D2, HGL2, hJ3, HK.out.trans hk3⟩
              case measure => simp [intOf]; omega
            · gi_wp2
              refine bodyPost_ret (results_none rfl _ _ _) rfl ?_
              exact ⟨⟨_, rfl⟩, .inr ⟨_, hJx3⟩⟩
        · have e : m = N := by omega
          have hmi : i < m := by omega
          have hr : 0 < r := by have := HM.out; omega
          have hnt : ∀ h : i + r < all.length, all[i + r].1 ≠ t := by
            intro h
            have h1 := HM.out
            have h2 := HN.out
            omega
          clear hmt
          subst e
          obtain ⟨d1, d2⟩ := DONE.out hnt hr
          have hgl : g + 1 ≤ (grp all).length := (List.getElem?_eq_some_iff.1 d1).1
          obtain ⟨fn, tmps, assign, body, hy, hR⟩ := HY.out g (t, s) wr HJS.out d1
          have HR := Lib.hid hR
          have D2 := Lib.hid d2
          have HGL2 := Lib.hid hgl
          dsimp only [encT] at hy
          clear hR d1 d2 hgl hnt
          gi_wp2
          refine HR.out.mono ?_
          rintro e W3 (⟨rfl, hJ3, hk3⟩ | ⟨rfl, hJx3⟩)
          · gi_wp2
            go_roundw
            case rel => exact ⟨m, g + 1, rfl, hrle, D2, HGL2, hJ3, HK.out.trans hk3⟩
            case measure => simp [intOf]; omega
          · gi_wp2
            refine bodyPost_ret (results_none rfl _ _ _) rfl ?_
            exact ⟨⟨_, rfl⟩, .inr ⟨_, hJx3⟩⟩
    · have e : i = N := by omega
      subst e
      have hge : g = (grp all).length := by
        have := HG.out
        rw [← HN.out] at this
        exact grp_end this HGL.out
      subst hge
      gi_wp2
      refine bodyPost_end (results_none rfl _ _ _) rfl ?_
      exact ⟨⟨_, rfl⟩, .inl ⟨_, rfl, HJS.out⟩⟩

end Go.Proofs.Ytpdhkpgnajfobaa
end
