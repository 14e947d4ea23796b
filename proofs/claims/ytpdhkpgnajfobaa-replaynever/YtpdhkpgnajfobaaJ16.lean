/- The contracts of hist.New and of skylightref06.May. · The contracts of replay.With and of replay.Merge. -/
import Derived.Test.YtpdhkpgnajfobaaJ04
import Derived.Test.YtpdhkpgnajfobaaJ15
import Derived.Test.YtpdhkpgnajfobaaJ09
section
/- The contracts of hist.New and of skylightref06.May. -/
namespace Go.Proofs.Ytpdhkpgnajfobaa
open Go.RowKit Go.Proofs.Rw Go.Proofs.Lh

theorem new_may (k : Int) (h : may k = true) (w : World) :
    Calls Try.prog 48 #[.int .i64 k] w fun e w' => e = hret (hv k 0 (.slice none 0 0)) 0 ∧ Below w.heap.size w w' := by
  have m := fun W => mayBe_any k W
  rw [h] at m
  have M := Lib.hid m
  clear m h
  go_enter Try.func48, Try.ntmps48
  go_wp2_with (go_at_call 80; (with_reducible refine (M.out _).mono ?_); rintro e wn ⟨rfl, rfl⟩)
  refine bodyPost_ret (v := .tuple #[hv k 0 (.slice none 0 0), .int .i64 0]) (by simp [results, Try.results48, go_sem]) rfl ⟨rfl, ?_⟩
  exact (Below.refl _ w).alloc (Nat.le_refl _) _
theorem new_not (k : Int) (h : may k = false) (w : World) :
    Calls Try.prog 48 #[.int .i64 k] w fun e w' => e = hret (hv 0 0 (.slice none 0 0)) 9 ∧ Below w.heap.size w w' := by
  have m := fun W => mayBe_any k W
  rw [h] at m
  have M := Lib.hid m
  clear m h
  go_enter Try.func48, Try.ntmps48
  go_wp2_with (go_at_call 80; (with_reducible refine (M.out _).mono ?_); rintro e wn ⟨rfl, rfl⟩)
  refine bodyPost_ret (v := .tuple #[hv 0 0 (.slice none 0 0), .int .i64 9]) (by simp [results, Try.results48, go_sem]) rfl ⟨rfl, ?_⟩
  exact (Below.refl _ w).alloc (Nat.le_refl _) _

theorem rMay_any (k : Int) (w : World) :
    Calls Try.prog 44 #[.int .i64 k] w fun e w' => e = .returned (.bool (may k)) ∧ w = w' := by
  by_cases h0 : 2 ≤ k
  · by_cases h1 : k ≤ 1024
    · go_enter Try.func44, Try.ntmps44
      go_wp2
      go_ret
      exact ⟨ret_b (by simp [may, h0, h1]), rfl⟩
    · go_enter Try.func44, Try.ntmps44
      go_wp2
      go_ret
      exact ⟨ret_b (by simp [may, h1]), rfl⟩
  · go_enter Try.func44, Try.ntmps44
    go_wp2
    go_ret
    exact ⟨ret_b (by simp [may]; omega), rfl⟩

end Go.Proofs.Ytpdhkpgnajfobaa
end
section
/- The contracts of replay.With and of replay.Merge. -/
namespace Go.Proofs.Ytpdhkpgnajfobaa
open Go.RowKit Go.Shelf Go.Proofs.Rw Go.Proofs.Lh Go.Proofs.Rn

attribute [local go_sem] Oper.semAt_some

/-- What a merge is asked of: histograms and events that came in. -/
structure Asked (xs : List Hx) (evs : List Ev) : Prop where
  few : xs.length ≤ 16
  fewE : evs.length ≤ 1000
  fits : Fits3 evs
  good : ∀ x ∈ xs, Lh.Good x.m
theorem lgood_len {x : Hx} (h : Lh.Good x.m) : x.ls.length ≤ 60 := Nat.le_trans (h.made.len) (by omega)
theorem lot_count : ∀ (ls : Lv), (lotsTo ls ls.length).length ≤ tot ls := by
  intro ls
  rw [(lots_perm ls).length_eq]
  have h1 : ∀ l : List Sp, (∀ x ∈ l, 1 ≤ x.2) → l.length ≤ (unitsOf l).length := by
    intro l h
    rw [units_len]
    induction l with
    | nil => exact Nat.le_refl _
    | cons x l ih =>
      have := h x List.mem_cons_self
      have := ih fun y hy => h y (List.mem_cons_of_mem _ hy)
      rw [List.map_cons, List.sum_cons, List.length_cons]
      omega
  have h2 := h1 (lumpsOf 0 ls) fun x hx => lumps_pos hx
  rw [lumps_len] at h2
  rw [tot_eq] at h2
  exact h2

theorem lots_few (ls : Lv) (hl : ∀ i, (lev ls i).length ≤ 1026) : ∀ j, (lotsTo ls j).length ≤ 1026 * j
  | 0 => by simp [lotsTo]
  | j + 1 => by
    have h1 := lots_few ls hl j
    have h2 := hl j
    rw [lotsTo_step, List.length_append, List.length_map]
    omega
theorem lots_cap {xs : List Hx} {evs : List Ev} (ha : Asked xs evs) : (lotsP evs (xs.map Hx.m)).length ≤ 1000000 := by
  have key : ∀ ys : List Hx, (∀ y ∈ ys, Lh.Good y.m) → ((ys.map Hx.m).flatMap lotsM).length ≤ 54378 * ys.length := by
    intro ys
    induction ys with
    | nil => intro _; simp
    | cons y ys ih =>
      intro hy
      have h1 := ih fun z hz => hy z (List.mem_cons_of_mem _ hz)
      have hg := hy y List.mem_cons_self
      have h2 := lots_few y.ls (fun i => hg.made.lev i) y.ls.length
      have h3 : y.ls.length ≤ 53 := hg.made.len
      have h4 : (lotsM y.m).length = (lotsTo y.ls y.ls.length).length := rfl
      rw [List.map_cons, List.flatMap_cons, List.length_append, h4, List.length_cons]
      omega
  have h1 := key xs ha.good
  have h2 := ha.few
  have h3 := ha.fewE
  unfold lotsP
  rw [show ((xs.map Hx.m).flatMap fun m => lotsTo m.2.2 m.2.2.length) = (xs.map Hx.m).flatMap lotsM from rfl, List.length_append, List.length_map]
  omega

/-- What is no row of cells is written: levels stay. -/
theorem levs_rec {W W' : World} {v : Value} {ls : Lv} {row : Option Nat} (hL : Levs W W.heap.size v ls) (hg : W.grownBy W' row) (hr : ∀ r, row = some r → ∃ o : Obj, W.heap[r]? = some o ∧ o.isCells = false) : Levs W' W'.heap.size v ls := by
  refine hL.other hg fun b e => ?_
  obtain ⟨o, ho, hc⟩ := hr b e
  constructor
  · rintro ⟨cs, fr, h⟩
    rw [ho] at h
    injection h with h
    subst h
    cases hc
  · rintro ⟨cs, fr, h⟩
    rw [ho] at h
    injection h with h
    subst h
    cases hc
/-- What stands in memory behind k ticks. -/
structure WI (w : World) (p k B : Nat) (all : List Sp) (j : Nat) (W : World) : Prop where
  big : B ≤ W.heap.size
  hist : ∃ (A : Option Addr) (c : Nat), W.heap[p]? = some (.cells #[.int .i64 (k : Int), .int .i64 0, .slice A (upTo k all j).length c] 32) ∧ Levs W W.heap.size (.slice A (upTo k all j).length c) (upTo k all j)
  err : Boxed W (p + 1) 44 (.int .i64 0)
  res : W.heap[w.heap.size]? = some (.cells #[.int .i64 0, .int .i64 0, .slice none 0 0] 32)
  res2 : Boxed W (w.heap.size + 1) 44 (.int .i64 0)
  below : Below w.heap.size w W
theorem WI.own {w : World} {p k B : Nat} {all : List Sp} (hp : p + 1 < B) (hw : w.heap.size + 1 < B) : OwnFrom B (WI w p k B all) := by
  intro j W W' row hs hg hr
  have far : ∀ b, b < B → some b ≠ row := fun b hb e => by have := (hr b e.symm).1; omega
  obtain ⟨A, c, h1, h2⟩ := hs.hist
  refine ⟨Nat.le_trans hs.big hg.size, ⟨A, c, ?_, ?_⟩, hs.err.kept hg (far _ hp), ?_, hs.res2.kept hg (far _ hw), hs.below.grown hg hs.below.size fun j e => by have := (hr j e).1; omega⟩
  · exact (hg.block p (lt_of h1) (far _ (by omega))).trans h1
  · exact levs_rec h2 hg fun r e => (hr r e).2
  · exact (hg.block _ (lt_of hs.res) (far _ (by omega))).trans hs.res
theorem levs_box {W : World} {b : Nat} {x : Value} (h : Boxed W b 44 x) (u : Value) {v : Value} {ls : Lv} (hL : Levs W W.heap.size v ls) : Levs (W.setCell ⟨b, 0, none⟩ u) (W.setCell ⟨b, 0, none⟩ u).heap.size v ls :=
  hL.other (grownBy_setCell' W b u) fun b' e => by
    cases e
    have ht : Ty W 44 b := ⟨_, _, h⟩
    exact ⟨fun h => Ty.ne ht h (by decide) rfl, fun h => Ty.ne ht h (by decide) rfl⟩

set_option maxHeartbeats 2000000 in
theorem with_bad (xs : List Hx) (evs : List Ev) (ha : Asked xs evs) (hb : badN evs (xs.map Hx.m) ≠ 0) (w : World) (A A2 : Option Addr) (c c2 : Nat) (h : Hs w w.heap.size (.slice A xs.length c) xs) (h2 : Lies evL w w.heap.size (.slice A2 evs.length c2) evs) :
    Calls Try.prog 27 #[.slice A2 evs.length c2, .slice A xs.length c] w fun e w' => e = hret (hv 0 0 (.slice none 0 0)) (badN evs (xs.map Hx.m) : Int) ∧ Below w.heap.size w w' := by
  obtain ⟨W0, hW0, hz0, p0, p1, hB0⟩ := heap_two w (.cells #[.int .i64 0, .int .i64 0, .slice none 0 0] 32) (.cells #[.int .i64 0] 44)
  have hno := no_any xs evs (by have := ha.few; omega) (by have := ha.fewE; omega) ha.fits (fun x hx => (ha.good x hx).gen4) (fun x hx => ⟨lgood_len (ha.good x hx), Nat.le_trans (ha.good x hx).made.small (by omega)⟩) W0 A A2 c c2 ((h.below hB0).mono hB0.size) ((h2.below hB0).mono hB0.size)
  obtain ⟨C, hC⟩ : ∃ C, badN evs (xs.map Hx.m) = C := ⟨_, rfl⟩
  rw [hC] at hb hno ⊢
  have hd : ((C : Int) != 0) = true := by simp; omega
  have HNO := Lib.hid hno
  have HB0 := Lib.hid hB0
  have HP0 := Lib.hid p0
  have HP1 := Lib.hid p1
  have HW0 := Lib.hid hW0
  clear hno hB0 p0 p1 hC h h2 hW0 ha
  go_enter Try.func27, Try.ntmps27
  go_wp2_with (go_at_call 47; rw [← HW0.out]; refine HNO.out.mono ?_; rintro e w1 ⟨rfl, hb1⟩; have hq := (hb1.block w.heap.size (by omega)).trans HP0.out; have hr := (hb1.block (w.heap.size + 1) (by omega)).trans HP1.out; obtain ⟨q0, q1, q2⟩ := box3 hq; obtain ⟨r0, r1⟩ := box1 hr; have f0 : ∀ i, w1.frozen? ⟨w.heap.size, i, none⟩ = false := (fun i => by simp [World.frozen?, hq]); have lq := lt_of hq; have lr := lt_of hr; have HB1 := Lib.hid (thn HB0.out hb1); have HQ := Lib.hid hq; have HR := Lib.hid hr; clear hb1 hq hr)
  have hs3 := set3 HQ.out (.int .i64 0) (.int .i64 0) (.slice none 0 0)
  have hk3 : Boxed (((w1.setCell ⟨w.heap.size, 0, none⟩ (.int .i64 0)).setCell ⟨w.heap.size, 1, none⟩ (.int .i64 0)).setCell ⟨w.heap.size, 2, none⟩ (.slice none 0 0)) (w.heap.size + 1) 44 (.int .i64 0) := by
    unfold Boxed
    rw [keep3 (by omega)]
    exact HR.out
  have hs4 := (Below.heap_setCell _ ⟨w.heap.size + 1, 0, none⟩ (.int .i64 C) w.heap.size (by simp)).trans hs3
  have hk4 := (hk3.set (.int .i64 C)).cell
  obtain ⟨y0, y1, y2⟩ := box3 hs4
  refine bodyPost_ret (v := .tuple #[hv 0 0 (.slice none 0 0), .int .i64 C]) (by simp [results, Try.results27, go_sem, y0, y1, y2, hk4]) rfl ⟨rfl, ?_⟩
  exact (below3 HB1.out (b := w.heap.size) (Nat.le_refl _) _ _ _).setCell (p := ⟨w.heap.size + 1, 0, none⟩) (by simp) _

set_option maxRecDepth 100000 in
set_option maxHeartbeats 4000000 in
theorem withR_in (n : Nat) (hn : 3 ≤ n) (xs : List Hx) (evs : List Ev) (ha : Asked xs evs) (hb : badN evs (xs.map Hx.m) = 0) (w : World) (A A2 : Option Addr) (c c2 : Nat) (h : Hs w w.heap.size (.slice A xs.length c) xs) (h2 : Lies evL w w.heap.size (.slice A2 evs.length c2) evs) :
    CallsIn Fence.wide n Try.prog 27 #[.slice A2 evs.length c2, .slice A xs.length c] w fun e w' => ∃ (A' : Option Addr) (c' : Nat), e = hret (hv (kOne (xs.map Hx.m)) (gmax (xs.map Hx.m) + 1) (.slice A' (mergeL (kOne (xs.map Hx.m)).toNat (lumpAll evs (xs.map Hx.m))).length c')) 0 ∧
      Levs w' w'.heap.size (.slice A' (mergeL (kOne (xs.map Hx.m)).toNat (lumpAll evs (xs.map Hx.m))).length c') (mergeL (kOne (xs.map Hx.m)).toNat (lumpAll evs (xs.map Hx.m))) ∧ Below w.heap.size w w' := by
  have h1 : 1 ≤ n := by omega
  obtain ⟨W0, hW0, hz0, p0, p1, hB0⟩ := heap_two w (.cells #[.int .i64 0, .int .i64 0, .slice none 0 0] 32) (.cells #[.int .i64 0] 44)
  have hno := no_any xs evs (by have := ha.few; omega) (by have := ha.fewE; omega) ha.fits (fun x hx => (ha.good x hx).gen4) (fun x hx => ⟨lgood_len (ha.good x hx), Nat.le_trans (ha.good x hx).made.small (by omega)⟩) W0 A A2 c c2 ((h.below hB0).mono hB0.size) ((h2.below hB0).mono hB0.size)
  rw [hb] at hno
  obtain ⟨hb1, hb2, hb3, hb4, hb5, hb6⟩ := badN_zero hb
  have hx0 : 0 < xs.length := by simpa using hb1
  obtain ⟨b2, off2, rfl, hb2, -, hc2⟩ := h.at hx0
  obtain ⟨e0, -, -, -⟩ := hc2 0 hx0
  have hk1 : xs[0].k = kOne (xs.map Hx.m) := by
    cases xs with
    | nil => simp at hx0
    | cons x xs => rfl
  have hkg := fun x (hx : x ∈ xs) => ha.good x hx
  obtain ⟨K, hK⟩ : ∃ K, kOne (xs.map Hx.m) = K := ⟨_, rfl⟩
  rw [hk1, hK] at e0
  simp only [Nat.zero_mul, Nat.add_zero] at e0
  have hmay : may K = true := by
    obtain ⟨m, hm, e⟩ := kOne_mem hb1
    obtain ⟨x, hx, rfl⟩ := List.mem_map.1 hm
    have hg := hkg x hx
    have := may_of hg.made.k2 hg.made.k1
    rw [Int.toNat_of_nonneg hg.pos] at this
    rw [← hK, ← e]
    exact this
  have hnew := fun W => new_may K hmay W
  have hlots := fun (W : World) (hW : Below w.heap.size w W) => lots_any xs evs (by have := ha.few; omega) (by have := ha.fewE; omega) (fun x hx => ⟨lgood_len (hkg x hx), fun i => by have := (hkg x hx).made.lev i; exact Nat.le_trans this (by omega)⟩) (lots_cap ha) W (some ⟨b2, off2, none⟩) A2 c c2 ((h.below hW).mono hW.size) ((h2.below hW).mono hW.size)
  have hgen := fun (W : World) (hW : Below w.heap.size w W) => ggen_any xs (by have := ha.few; omega) (fun x hx => (hkg x hx).gen4) W (some ⟨b2, off2, none⟩) c ((h.below hW).mono hW.size)
  obtain ⟨ms, hms⟩ : ∃ ms, xs.map Hx.m = ms := ⟨_, rfl⟩
  rw [hms] at hlots hK hb hgen ⊢
  obtain ⟨G, hG⟩ : ∃ G, gmax ms = G := ⟨_, rfl⟩
  rw [hG] at hgen ⊢
  have hG3 : G < 4 := by rw [← hG, ← hms]; exact hb4
  obtain ⟨N, hN⟩ : ∃ N, xs.length = N := ⟨_, rfl⟩
  obtain ⟨N2, hN2⟩ : ∃ N, evs.length = N := ⟨_, rfl⟩
  have HNO := Lib.hid hno
  have HB0 := Lib.hid hB0
  have HP0 := Lib.hid p0
  have HP1 := Lib.hid p1
  have HW0 := Lib.hid hW0
  have HNEW := Lib.hid hnew
  have HLOTS := Lib.hid hlots
  have HGEN := Lib.hid hgen
  simp only [hN, hN2] at HNO HLOTS HGEN ⊢
  rw [hN] at hx0
  rw [hK]
  clear hno hB0 p0 p1 h h2 hW0 hnew hlots hgen hc2 hN hN2
  refine callsIn_of_wp_marks Try.func27 rfl trivial ?_ rfl
  simp only [Try.ntmps27, List.size_toArray, List.length_cons, List.length_nil, Nat.reduceAdd, Nat.reduceSub, Array.replicate_succ, Array.replicate_zero, List.push_toArray, List.append_toArray, List.nil_append, List.cons_append]
  gi_wp2_with (first
    | (refine ⟨trivial, ?_⟩; gi_at_call 47; rw [← HW0.out]; refine (callsIn_wide.2 HNO.out).mono ?_; rintro e w1 ⟨rfl, hb1⟩; have hq := (hb1.block w.heap.size (by omega)).trans HP0.out; have hr := (hb1.block (w.heap.size + 1) (by omega)).trans HP1.out; have HB1 := Lib.hid (thn HB0.out hb1); have HZ1 := Lib.hid hb1.size; have e1 := (HB1.out.cell (p := ⟨b2, off2, none⟩) hb2).trans e0; have lb2 : b2 < w1.heap.size := Nat.lt_of_lt_of_le hb2 HB1.out.size; have HQ := Lib.hid hq; have HR := Lib.hid hr; clear hb1 hq hr)
    | (refine ⟨trivial, ?_⟩; gi_at_call 48; refine (callsIn_wide.2 (HNEW.out _)).mono ?_; rintro e w2 ⟨rfl, hb2'⟩; have HB2 := Lib.hid hb2'; clear hb2')
    | (refine ⟨trivial, ?_⟩; gi_at_call 50; obtain ⟨W3, hW3, hz3, s0, s1, hB3⟩ := heap_two w2 (.cells #[.int .i64 K, .int .i64 0, .slice none 0 0] 32) (.cells #[.int .i64 0] 44); rw [← hW3]; refine (callsIn_wide.2 (HLOTS.out W3 (thn (thn HB1.out HB2.out) hB3))).mono ?_; rintro e w4 ⟨v, ys, rfl, y1, y2, y3, hb4⟩; obtain ⟨Ay, cy, rfl, -, -⟩ := own_form y3; have Y1 := Lib.hid y1; have Y2 := Lib.hid y2; have Y3 := Lib.hid y3; have HB4 := Lib.hid hb4; have S0 := Lib.hid s0; have S1 := Lib.hid s1; have HB3 := Lib.hid hB3; have HZ3 := Lib.hid hz3; clear y1 y2 y3 hb4 s0 s1 hB3 hz3 hW3)
    | (refine ⟨trivial, ?_⟩; gi_at_call 49; refine (callsIn_wide.2 (ticks_any Ay ys.length cy _)).mono ?_; rintro e w' ⟨rfl, rfl⟩))
  obtain ⟨W5, hW5⟩ : ∃ W, w4.alloc (.cells #[.slice Ay ys.length cy] 107) = W := ⟨_, rfl⟩
  have q5 : W5.heap[w4.heap.size]? = some (.cells #[.slice Ay ys.length cy] 107) := by rw [← hW5]; exact heap_alloc_new w4 _
  have hB5 : Below w4.heap.size w4 W5 := by rw [← hW5]; exact (Below.refl _ w4).alloc (Nat.le_refl _) _
  have hz5 : W5.heap.size = w4.heap.size + 1 := by rw [← hW5]; simp
  rw [hW5]
  have hz4 := HB4.out.size
  have hz3 := HZ3.out
  have hz2 := HB2.out.size
  have hz1 := HZ1.out
  have hbw4 : Below w.heap.size w w4 := thn (thn (thn HB1.out HB2.out) HB3.out) HB4.out
  have hbw5 : Below w.heap.size w W5 := thn hbw4 hB5
  have hys5 : Lies spL W5 W5.heap.size (.slice Ay ys.length cy) ys := (Lies.of_own Y3.out).grow hB5
  have hfine : Fine K.toNat ys := by
    rw [← hK]
    refine fine_all hb (fun m hm => ?_) (Y1.out.trans (lotsP_perm evs ms)) Y2.out
    rw [← hms] at hm
    obtain ⟨x, hx, rfl⟩ := List.mem_map.1 hm
    exact hkg x hx
  have hfg := hfine.grp
  have hlen7 : ys.length ≤ 10000000 := by
    have := lots_cap ha
    rw [hms] at this
    rw [Y1.out.length_eq]
    omega
  have seq := ticks1_in (n - 1) (by omega) W5.heap.size w2.heap.size (w2.heap.size + 1) w4.heap.size ys hlen7 hfine.small W5 (Nat.le_refl _) Ay cy hys5 (fun b hb => by have := (Y3.out.lt b hb).1; omega) q5 (by omega) (by omega) (by omega)
  obtain ⟨k, rfl⟩ : ∃ k : Nat, K = (k : Int) := ⟨K.toNat, by have := of_decide_eq_true hmay; omega⟩
  rw [Int.toNat_natCast] at hfine hfg
  have hI0 : WI w w2.heap.size k W5.heap.size (grp ys) 0 W5 := by
    refine ⟨Nat.le_refl _, ⟨none, 0, ?_, ?_⟩, ?_, ?_, ?_, hbw5⟩
    · rw [upTo_zero]
      exact (hB5.block _ (by omega)).trans ((HB4.out.block _ (by omega)).trans S0.out)
    · rw [upTo_zero]
      exact Levs.nil
    · exact (hB5.block _ (by omega)).trans ((HB4.out.block _ (by omega)).trans S1.out)
    · exact (hB5.block _ (by omega)).trans ((HB4.out.block _ (by omega)).trans ((HB3.out.block _ (by omega)).trans ((HB2.out.block _ (by omega)).trans HQ.out)))
    · exact (hB5.block _ (by omega)).trans ((HB4.out.block _ (by omega)).trans ((HB3.out.block _ (by omega)).trans ((HB2.out.block _ (by omega)).trans HR.out)))
  obtain ⟨p, hp⟩ : ∃ p, w2.heap.size = p := ⟨_, rfl⟩
  obtain ⟨z, hz⟩ : ∃ z, w4.heap.size = z := ⟨_, rfl⟩
  rw [hp] at hI0 seq ⊢
  rw [hz] at seq ⊢
  have hp1 : p + 1 < W5.heap.size := by omega
  have hw1 : w.heap.size + 1 < W5.heap.size := by omega
  have hwp : w.heap.size + 2 ≤ p := by omega
  have HGR := Lib.hid hfg
  have HFI := Lib.hid hfine
  clear q5 hW5 hB5 hz5 hz4 hz3 hz2 hz1 hbw4 hys5 hfine hlen7 hfg
  refine range_n rfl h1 (gf := 81) (lb := #[.pointer (some ⟨z, 0, none⟩)]) rfl trivial (enters_of Try.func81 (by kernel_rfl) rfl)
    seq (fun h k => h.trans k) (Kx.put (Nat.le_refl _)) (fun _ _ _ _ _ _ _ _ _ h => h) (Below.refl _ _) (fun _ => rfl)
    (WI w p k W5.heap.size (grp ys)) (fun _ _ _ => False)
    (WI.own hp1 hw1)
    (fun _ _ _ _ _ hs _ _ => hs)
    hI0
    (fun x => { tmps := #[.slice A2 N2 c2, .slice (some ⟨b2, off2, none⟩) N c, undef, undef, .pointer (some ⟨w.heap.size, 0, none⟩), .pointer (some ⟨w.heap.size + 1, 0, none⟩), .int .i64 0, .pointer (some ⟨p, 0, none⟩), .pointer (some ⟨p + 1, 0, none⟩), .int .u64 (x.1 : Int), .int .u64 (x.2 : Int),
      .slice A2 N2 c2, .slice (some ⟨b2, off2, none⟩) N c, .int .i64 0, .int .i64 0, .bool false, undef, undef, .tuple #[hv k 0 (.slice none 0 0), .int .i64 0], .slice (some ⟨b2, off2, none⟩) N c, .pointer (some ⟨b2, off2, none⟩), .pointer (some ⟨b2, off2, none⟩), .int .i64 k,
      .tuple #[hv k 0 (.slice none 0 0), .int .i64 0], hv k 0 (.slice none 0 0), .int .i64 0, .int .i64 0, .bool false, undef, undef, .slice A2 N2 c2, .slice (some ⟨b2, off2, none⟩) N c, .slice Ay ys.length cy, .func (.func 81) #[] #[.pointer (some ⟨z, 0, none⟩)], .int .u64 (x.1 : Int), .int .u64 (x.2 : Int),
      undef, undef, undef, undef, undef, undef, undef, undef, undef, undef, undef, undef, undef, undef, undef, undef], defers := [] }) ?assign ?body ?done ?stop
  case assign =>
    intro l x W K hK
    gi_wp2
    exact hK
  case body =>
    rintro l j x W hI hx
    have hx' : (grp ys)[j]? = some x := hx
    obtain ⟨hjl, hxe⟩ := List.getElem?_eq_some_iff.1 hx'
    have hcode := HGR.out.code hjl
    have hsucc := upTo_succ k hjl
    have hmd := HGR.out.made j
    have hx2 := mem_bound (List.getElem_mem hjl)
    rw [hxe] at hcode hsucc hx2
    have hx52 := Nat.le_trans hx2 HGR.out.small
    obtain ⟨Ah, ch, hh, hL⟩ := hI.hist
    have hadd := add_ok k 0 _ hmd x.1 x.2 (by omega) hcode W Ah ch hL
    rw [← hsucc] at hadd
    obtain ⟨L, hLe⟩ : ∃ L, upTo k (grp ys) j = L := ⟨_, rfl⟩
    rw [hLe] at hh hadd
    obtain ⟨m, hm⟩ : ∃ m, L.length = m := ⟨_, rfl⟩
    rw [hm] at hh hadd
    obtain ⟨q0, q1, q2⟩ := box3 hh
    have lp := lt_of hh
    have lq := hI.err.lt
    have HADD := Lib.hid hadd
    have HH := Lib.hid hh
    have HI := Lib.hid hI
    clear hadd hh hI hL hsucc hcode hmd hx2 hx hx' hxe seq hI0 hLe hm
    gi_wp2_with (refine ⟨trivial, fun _ => (by omega), ?_⟩; refine (callsIn_round l (callsIn_wide.2 HADD.out)).mono ?_; rintro e w6 ⟨v, rfl, hL6, hb6⟩; obtain ⟨A6, c6, rfl, -, -, hL7⟩ := hL6.form; have hh6 := (hb6.block p lp).trans HH.out; have he6 : Boxed w6 (p + 1) 44 (.int .i64 0) := (hb6.block _ lq).trans HI.out.err; have f0 : ∀ i, w6.frozen? ⟨p, i, none⟩ = false := (fun i => by simp [World.frozen?, hh6]); have l6 := lt_of hh6; have l7 := he6.lt; have c7 := he6.cell; have f7 := he6.frozen; obtain ⟨d0, d1, d2⟩ := box3 hh6; have HH6 := Lib.hid hh6; have HE6 := Lib.hid he6; have HL7 := Lib.hid hL7; have HB6 := Lib.hid hb6; clear hh6 he6 hL6 hL7 hb6)
    have k1 : KeepsFrom W5.heap.size W w6 := ⟨HB6.out.size, fun q o _ hk ho => (HB6.out.block q (Array.getElem?_eq_some_iff.1 hk).1).trans hk⟩
    have hs3 := set3 HH6.out (.int .i64 (k : Int)) (.int .i64 0) (.slice A6 (upTo k (grp ys) (j + 1)).length c6)
    have he3 : Boxed (((w6.setCell ⟨p, 0, none⟩ (.int .i64 (k : Int))).setCell ⟨p, 1, none⟩ (.int .i64 0)).setCell ⟨p, 2, none⟩ (.slice A6 (upTo k (grp ys) (j + 1)).length c6)) (p + 1) 44 (.int .i64 0) := by
      unfold Boxed
      rw [keep3 (by omega)]
      exact HE6.out
    have hL3 := levs_set3 (T := 32) (by decide) (by decide) HH6.out (.int .i64 (k : Int)) (.int .i64 0) (.slice A6 (upTo k (grp ys) (j + 1)).length c6) HL7.out
    have hL4 := levs_box he3 (.int .i64 0) hL3
    have far : ∀ b, b ≠ p → b ≠ p + 1 → (((((w6.setCell ⟨p, 0, none⟩ (.int .i64 (k : Int))).setCell ⟨p, 1, none⟩ (.int .i64 0)).setCell ⟨p, 2, none⟩ (.slice A6 (upTo k (grp ys) (j + 1)).length c6)).setCell ⟨p + 1, 0, none⟩ (.int .i64 0)).heap[b]? = w6.heap[b]?) := by
      intro b h1 h2
      rw [Below.heap_setCell _ _ _ _ h2, keep3 h1]
    have hsz : ((((w6.setCell ⟨p, 0, none⟩ (.int .i64 (k : Int))).setCell ⟨p, 1, none⟩ (.int .i64 0)).setCell ⟨p, 2, none⟩ (.slice A6 (upTo k (grp ys) (j + 1)).length c6)).setCell ⟨p + 1, 0, none⟩ (.int .i64 0)).heap.size = w6.heap.size := by simp [World.setCell]
    refine ⟨KeepsFrom.trans k1 (KeepsFrom.trans ((KeepsOthers.setCell _ _ _).from _) (KeepsFrom.trans ((KeepsOthers.setCell _ _ _).from _) (KeepsFrom.trans ((KeepsOthers.setCell _ _ _).from _) ((KeepsOthers.setCell _ _ _).from _)))), ⟨by rw [hsz]; exact HB6.out.size, fun b hb h1 h2 => ?_⟩, ⟨by rw [hsz]; exact Nat.le_trans HI.out.big HB6.out.size, ⟨A6, c6, ?_, hL4⟩, he3.set _, ?_, ?_, ?_⟩⟩
    · rw [far b h1 h2]
      exact HB6.out.block b (Nat.lt_of_lt_of_le hb HI.out.big)
    · exact (Below.heap_setCell _ _ _ _ (by simp)).trans hs3
    · rw [far _ (by omega) (by omega)]
      exact (HB6.out.block _ (lt_of HI.out.res)).trans HI.out.res
    · unfold Boxed
      rw [far _ (by omega) (by omega)]
      exact (HB6.out.block _ HI.out.res2.lt).trans HI.out.res2
    · exact (below3 (thn HI.out.below HB6.out) (by omega) _ _ _).setCell (p := ⟨p + 1, 0, none⟩) (by simp; omega) _
  case done =>
    rintro D m W hD rfl hI hK
    have hup : upTo k (grp ys) (grp ys).length = mergeL k (lumpAll evs ms) := by
      rw [upTo_grp, upTo_all]
      exact merge_fold k (Y1.out.trans (lotsP_perm evs ms)) Y2.out
    obtain ⟨Ah, ch, hh, hL⟩ := hI.hist
    rw [hup] at hh hL
    obtain ⟨L, hLe⟩ : ∃ L, mergeL k (lumpAll evs ms) = L := ⟨_, rfl⟩
    rw [hLe] at hh hL
    obtain ⟨m, hm⟩ : ∃ m, L.length = m := ⟨_, rfl⟩
    rw [hm] at hh hL
    have HLE := Lib.hid hLe
    have HM := Lib.hid hm
    have hgw := HGEN.out W hI.below
    have g0 : 0 ≤ G := by rw [← hG]; exact gmax_nonneg ms
    have g4 : G < 4 := hG3
    have lD : D < W.heap.size := (Array.getElem?_eq_some_iff.1 hK).1
    have HGW := Lib.hid hgw
    have HI := Lib.hid hI
    have HH := Lib.hid hh
    have HL := Lib.hid hL
    have HK := Lib.hid hK
    have hzp : p < W5.heap.size := by omega
    clear hgw hI hh hL hK hup hLe hm hI0 seq HGR HFI Y1 Y2 Y3
    gi_wp2_with (refine ⟨trivial, ?_⟩; gi_at_call 51; refine (callsIn_wide.2 HGW.out).mono ?_; rintro e w6 ⟨rfl, hb6⟩; have hh6 := (hb6.block p (lt_of HH.out)).trans HH.out; have hr6 := (hb6.block w.heap.size (lt_of HI.out.res)).trans HI.out.res; have he6 : Boxed w6 (w.heap.size + 1) 44 (.int .i64 0) := (hb6.block _ HI.out.res2.lt).trans HI.out.res2; have hk6 := (hb6.block D lD).trans HK.out; have f0 : ∀ i, w6.frozen? ⟨p, i, none⟩ = false := (fun i => by simp [World.frozen?, hh6]); have f1 : ∀ i, w6.frozen? ⟨w.heap.size, i, none⟩ = false := (fun i => by simp [World.frozen?, hr6]); have l6 := lt_of hh6; have l7 := lt_of hr6; have l8 := he6.lt; have c8 := he6.cell; have f8 := he6.frozen; obtain ⟨d0, d1, d2⟩ := box3 hh6; obtain ⟨r0, r1, r2⟩ := box3 hr6; have HH6 := Lib.hid hh6; have HR6 := Lib.hid hr6; have HE6 := Lib.hid he6; have HB6 := Lib.hid hb6; have HK6 := Lib.hid hk6; have n1 : p ≠ w.heap.size := (by omega); have n2 : p ≠ w.heap.size + 1 := (by omega); clear hh6 he6 hr6 hb6 hk6)
    have x1 : (w6.setCell ⟨p, 1, none⟩ (.int .i64 (G + 1))).heap[w.heap.size]? = some (.cells #[.int .i64 0, .int .i64 0, .slice none 0 0] 32) := (Below.heap_setCell _ _ _ _ (by simp; omega)).trans HR6.out
    have x2 := set3 x1 (.int .i64 (k : Int)) (.int .i64 (G + 1)) (.slice Ah m ch)
    have x3 : Boxed ((((w6.setCell ⟨p, 1, none⟩ (.int .i64 (G + 1))).setCell ⟨w.heap.size, 0, none⟩ (.int .i64 (k : Int))).setCell ⟨w.heap.size, 1, none⟩ (.int .i64 (G + 1))).setCell ⟨w.heap.size, 2, none⟩ (.slice Ah m ch)) (w.heap.size + 1) 44 (.int .i64 0) := by
      unfold Boxed
      rw [keep3 (by omega)]
      exact (Below.heap_setCell _ _ _ _ (by simp; omega)).trans HE6.out
    have x4 := x3.set (.int .i64 0)
    have x5 := (Below.heap_setCell ((((w6.setCell ⟨p, 1, none⟩ (.int .i64 (G + 1))).setCell ⟨w.heap.size, 0, none⟩ (.int .i64 (k : Int))).setCell ⟨w.heap.size, 1, none⟩ (.int .i64 (G + 1))).setCell ⟨w.heap.size, 2, none⟩ (.slice Ah m ch)) ⟨w.heap.size + 1, 0, none⟩ (.int .i64 0) w.heap.size (by simp)).trans x2
    have v1 : Levs (w6.setCell ⟨p, 1, none⟩ (.int .i64 (G + 1))) (w6.setCell ⟨p, 1, none⟩ (.int .i64 (G + 1))).heap.size (.slice Ah m ch) L :=
      (HL.out.grow HB6.out).other (grown_set _ _ _ _) fun b' e => by
        cases e
        have ht : Ty w6 32 p := ⟨_, _, HH6.out⟩
        exact ⟨fun h => Ty.ne ht h (by decide) rfl, fun h => Ty.ne ht h (by decide) rfl⟩
    have v2 := levs_set3 (T := 32) (by decide) (by decide) x1 (.int .i64 (k : Int)) (.int .i64 (G + 1)) (.slice Ah m ch) v1
    have v3 := levs_box x3 (.int .i64 0) v2
    have b3 := (below3 ((thn HI.out.below HB6.out).setCell (p := ⟨p, 1, none⟩) (by simp; omega) (.int .i64 (G + 1))) (b := w.heap.size) (Nat.le_refl _) (.int .i64 (k : Int)) (.int .i64 (G + 1)) (.slice Ah m ch)).setCell (p := ⟨w.heap.size + 1, 0, none⟩) (by simp) (.int .i64 0)
    obtain ⟨W7, hW7⟩ : ∃ W7, ((((w6.setCell ⟨p, 1, none⟩ (.int .i64 (G + 1))).setCell ⟨w.heap.size, 0, none⟩ (.int .i64 (k : Int))).setCell ⟨w.heap.size, 1, none⟩ (.int .i64 (G + 1))).setCell ⟨w.heap.size, 2, none⟩ (.slice Ah m ch)).setCell ⟨w.heap.size + 1, 0, none⟩ (.int .i64 0) = W7 := ⟨_, rfl⟩
    have hK7 : W7.heap[D]? = some (.deferred (some [])) := by
      rw [← hW7, Below.heap_setCell _ _ _ _ (by simp; omega), keep3 (by omega), Below.heap_setCell _ _ _ _ (by simp; omega)]
      exact HK6.out
    rw [hW7] at x4 x5 v3 b3 ⊢
    have v4 := levs_rec v3 (grownBy_putObj' W7 D (.deferred none)) fun r e => by cases e; exact ⟨_, hK7, rfl⟩
    have x6 : (W7.putObj D (.deferred none)).heap[w.heap.size]? = some (.cells #[.int .i64 (k : Int), .int .i64 (G + 1), .slice Ah m ch] 32) := (World.putObj_heap_other (by omega)).trans x5
    have x7 : Boxed (W7.putObj D (.deferred none)) (w.heap.size + 1) 44 (.int .i64 0) := (World.putObj_heap_other (by omega)).trans x4
    have b7 := b3.trans (belowK_b (w := w) (Nat.le_refl _) W7 D _ (.deferred none) (by omega) hK7 rfl rfl)
    obtain ⟨t0, t1, t2⟩ := box3 x6
    have t3 := x7.cell
    refine ⟨by simp, .inl ⟨_, _, rfl, run_takeDeferred hK7, ?_⟩⟩
    refine ⟨.tuple #[hv k (G + 1) (.slice Ah m ch), .int .i64 0], by simp [results, Try.results27, go_sem, t0, t1, t2, t3], ⟨Ah, ch, ?_, ?_, b7⟩⟩
    · rw [Int.toNat_natCast, HLE.out, HM.out]
    · rw [Int.toNat_natCast, HLE.out, HM.out]
      exact v4
  case stop =>
    rintro D c pre W _ h _
    exact h.elim

/-- What With tells. -/
def WithP (evs : List Ev) (ms : List Hm) (w : World) (e : Ending) (w' : World) : Prop :=
  ∃ (A : Option Addr) (c : Nat), e = hret (hv (outM evs ms).1 (outM evs ms).2.1 (.slice A (outM evs ms).2.2.length c)) (badN evs ms : Int) ∧ Levs w' w'.heap.size (.slice A (outM evs ms).2.2.length c) (outM evs ms).2.2 ∧ Below w.heap.size w w'
theorem with_any (xs : List Hx) (evs : List Ev) (ha : Asked xs evs) (w : World) (A A2 : Option Addr) (c c2 : Nat) (h : Hs w w.heap.size (.slice A xs.length c) xs) (h2 : Lies evL w w.heap.size (.slice A2 evs.length c2) evs) :
    Calls Try.prog 27 #[.slice A2 evs.length c2, .slice A xs.length c] w (WithP evs (xs.map Hx.m) w) := by
  by_cases hb : badN evs (xs.map Hx.m) = 0
  · refine ((callsIn_wide (n := 3)).1 (withR_in 3 (by omega) xs evs ha hb w A A2 c c2 h h2)).mono ?_
    rintro e w' ⟨A', c', he, hL, hB⟩
    unfold WithP outM
    simp only [if_pos hb]
    exact ⟨A', c', by rw [he, hb]; rfl, hL, hB⟩
  · refine (with_bad xs evs ha hb w A A2 c c2 h h2).mono ?_
    rintro e w' ⟨he, hB⟩
    unfold WithP outM
    simp only [if_neg hb]
    exact ⟨none, 0, he, Levs.nil, hB⟩
theorem merge_any (xs : List Hx) (ha : Asked xs []) (w : World) (A : Option Addr) (c : Nat) (h : Hs w w.heap.size (.slice A xs.length c) xs) :
    Calls Try.prog 15 #[.slice A xs.length c] w (WithP [] (xs.map Hx.m) w) := by
  have hb0 : Below w.heap.size w (w.alloc (.cells #[.int .i64 0, .int .i64 0, .slice none 0 0] 32)) := (Below.refl _ w).alloc (Nat.le_refl _) _
  have p0 : (w.alloc (.cells #[.int .i64 0, .int .i64 0, .slice none 0 0] 32)).heap[w.heap.size]? = some (.cells #[.int .i64 0, .int .i64 0, .slice none 0 0] 32) := heap_alloc_new w _
  have hw := with_any xs [] ha _ A none c 0 (h.grow hb0) (Lies.nil none 0 (by unfold maxLen; omega))
  obtain ⟨N, hN⟩ : ∃ N, xs.length = N := ⟨_, rfl⟩
  rw [hN] at hw ⊢
  have HW := Lib.hid hw
  have HB0 := Lib.hid hb0
  have HP0 := Lib.hid p0
  clear hw h hN hb0 p0
  unfold WithP at HW ⊢
  generalize outM [] (xs.map Hx.m) = o at *
  obtain ⟨o1, o2, o3⟩ := o
  dsimp only at HW ⊢
  generalize badN [] (xs.map Hx.m) = C at *
  obtain ⟨M, hM⟩ : ∃ M, o3.length = M := ⟨_, rfl⟩
  rw [hM] at HW ⊢
  go_enter Try.func15, Try.ntmps15
  go_wp2_with (go_at_call 27; refine HW.out.mono ?_; rintro e w1 ⟨A', c', rfl, hL, hb1⟩; have hq := (hb1.block w.heap.size (by simp)).trans HP0.out; have f0 : ∀ i, w1.frozen? ⟨w.heap.size, i, none⟩ = false := (fun i => by simp [World.frozen?, hq]); have lq := lt_of hq; obtain ⟨q0, q1, q2⟩ := box3 hq; have HL := Lib.hid hL; have HB := Lib.hid hb1; have HQ := Lib.hid hq; clear hL hb1 hq)
  obtain ⟨r0, r1, r2⟩ := box3 (set3 HQ.out (.int .i64 o1) (.int .i64 o2) (.slice A' M c'))
  refine bodyPost_ret (v := .tuple #[hv o1 o2 (.slice A' M c'), .int .i64 (C : Int)]) (by simp [results, Try.results15, go_sem, r0, r1, r2]) rfl ⟨A', c', rfl, ?_, below3 (thn HB0.out HB.out) (Nat.le_refl _) _ _ _⟩
  exact levs_set3 (T := 32) (by decide) (by decide) HQ.out _ _ _ HL.out

end Go.Proofs.Ytpdhkpgnajfobaa
end
