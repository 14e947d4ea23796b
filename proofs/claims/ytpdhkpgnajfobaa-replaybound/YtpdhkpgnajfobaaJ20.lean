/- skylightlaw10.digits, times: numbers in eight digits of 2^32. · skylightlaw10.below: the greater bound, by digits of 2^32. · The contracts of skylightref08.Parts and skylightref08.Of. · The contract of skylightref08.Exact: how many units really came within. -/
import Derived.Test.YtpdhkpgnajfobaaJ19
import Derived.Test.YtpdhkpgnajfobaaJ13
section
/- skylightlaw10.digits, times: numbers in eight digits of 2^32. -/
namespace Go.Proofs.Dg
def carry (x : Nat) (d : Nat → Nat) : Nat → Nat
  | 0 => 0
  | i + 1 => (d i * x + carry x d i) / 4294967296
def prodD (x : Nat) (d : Nat → Nat) (i : Nat) : Nat := (d i * x + carry x d i) % 4294967296
def list8 (d : Nat → Nat) : List Nat := [d 0, d 1, d 2, d 3, d 4, d 5, d 6, d 7]
theorem tms_list (x : Nat) (d : Nat → Nat) : tms x 0 (list8 d) = list8 (prodD x d) := rfl
theorem carry_lt {x : Nat} (hx : x ≤ 4294967295) {d : Nat → Nat} (hd : ∀ i, i < 8 → d i < 4294967296) : ∀ i, i ≤ 8 → carry x d i < 4294967296 ∧ (i < 8 → d i * x + carry x d i < 18446744073709551616)
  | 0, _ => ⟨by show (0 : Nat) < _; omega, fun h => by
      have h0 := hd 0 h
      have : d 0 * x ≤ 4294967295 * 4294967295 := Nat.mul_le_mul (by omega) hx
      show d 0 * x + 0 < _
      omega⟩
  | i + 1, h => by
    obtain ⟨h1, h2⟩ := carry_lt hx hd i (by omega)
    have h3 := h2 (by omega)
    have hc : carry x d (i + 1) < 4294967296 := by
      show (d i * x + carry x d i) / 4294967296 < _
      omega
    refine ⟨hc, fun hi => ?_⟩
    have h0 := hd (i + 1) hi
    have : d (i + 1) * x ≤ 4294967295 * 4294967295 := Nat.mul_le_mul (by omega) hx
    omega
theorem prod_lt (x : Nat) (d : Nat → Nat) (i : Nat) : prodD x d i < 4294967296 := Nat.mod_lt _ (by decide)
theorem low8 {d : Nat → Nat} (hd : ∀ i, i < 8 → d i < 4294967296) : Low (list8 d) := by
  intro e he
  simp only [list8, List.mem_cons, List.not_mem_nil, or_false] at he
  rcases he with rfl | rfl | rfl | rfl | rfl | rfl | rfl | rfl
  · exact hd 0 (by omega)
  · exact hd 1 (by omega)
  · exact hd 2 (by omega)
  · exact hd 3 (by omega)
  · exact hd 4 (by omega)
  · exact hd 5 (by omega)
  · exact hd 6 (by omega)
  · exact hd 7 (by omega)
theorem val_prod {x : Nat} {d : Nat → Nat} (h : val (list8 d) * x < 4294967296 ^ 8) : val (list8 (prodD x d)) = val (list8 d) * x := by
  rw [← tms_list]
  have := tms_val x 0 (list8 d) (by rw [Nat.add_zero]; exact h)
  rw [this, Nat.add_zero]
def numD (n : Nat) (i : Nat) : Nat := if i = 0 then n % 4294967296 else if i = 1 then n / 4294967296 else 0
theorem val_num (n : Nat) : val (list8 (numD n)) = n := val_two n 6
end Go.Proofs.Dg
namespace Go.Proofs.Ytpdhkpgnajfobaa
open Go.RowKit Go.Shelf Go.Proofs.Rw Go.Proofs.Lh Go.Proofs.Rf Go.Proofs.Dg

abbrev arr8 (d : Nat → Nat) : Array Value := #[.int .u64 (d 0 : Int), .int .u64 (d 1 : Int), .int .u64 (d 2 : Int), .int .u64 (d 3 : Int), .int .u64 (d 4 : Int), .int .u64 (d 5 : Int), .int .u64 (d 6 : Int), .int .u64 (d 7 : Int)]
theorem arr_at {W : World} {b : Nat} {d : Nat → Nat} {T : TypeId} (h : W.heap[b]? = some (.cells (arr8 d) T)) (i : Nat) (hi : i < 8) : W.cell? ⟨b, i, none⟩ = some (.int .u64 (d i : Int)) := by
  match i, hi with
  | 0, _ => simp [World.cell?, h]
  | 1, _ => simp [World.cell?, h]
  | 2, _ => simp [World.cell?, h]
  | 3, _ => simp [World.cell?, h]
  | 4, _ => simp [World.cell?, h]
  | 5, _ => simp [World.cell?, h]
  | 6, _ => simp [World.cell?, h]
  | 7, _ => simp [World.cell?, h]
theorem box8 {W : World} {b : Nat} {d : Nat → Nat} {T : TypeId} (h : W.heap[b]? = some (.cells (arr8 d) T)) : W.cell? ⟨b, 0, none⟩ = some (.int .u64 (d 0 : Int)) ∧ W.cell? ⟨b, 1, none⟩ = some (.int .u64 (d 1 : Int)) ∧ W.cell? ⟨b, 2, none⟩ = some (.int .u64 (d 2 : Int)) ∧ W.cell? ⟨b, 3, none⟩ = some (.int .u64 (d 3 : Int)) ∧ W.cell? ⟨b, 4, none⟩ = some (.int .u64 (d 4 : Int)) ∧ W.cell? ⟨b, 5, none⟩ = some (.int .u64 (d 5 : Int)) ∧ W.cell? ⟨b, 6, none⟩ = some (.int .u64 (d 6 : Int)) ∧ W.cell? ⟨b, 7, none⟩ = some (.int .u64 (d 7 : Int)) :=
  ⟨arr_at h 0 (by omega), arr_at h 1 (by omega), arr_at h 2 (by omega), arr_at h 3 (by omega), arr_at h 4 (by omega), arr_at h 5 (by omega), arr_at h 6 (by omega), arr_at h 7 (by omega)⟩
def store8 (W : World) (b : Nat) (e : Nat → Nat) : World := (((((((W.setCell ⟨b, 0, none⟩ (.int .u64 (e 0 : Int))).setCell ⟨b, 1, none⟩ (.int .u64 (e 1 : Int))).setCell ⟨b, 2, none⟩ (.int .u64 (e 2 : Int))).setCell ⟨b, 3, none⟩ (.int .u64 (e 3 : Int))).setCell ⟨b, 4, none⟩ (.int .u64 (e 4 : Int))).setCell ⟨b, 5, none⟩ (.int .u64 (e 5 : Int))).setCell ⟨b, 6, none⟩ (.int .u64 (e 6 : Int))).setCell ⟨b, 7, none⟩ (.int .u64 (e 7 : Int))
theorem store8_ne {W : World} {b q : Nat} (h : q ≠ b) (e : Nat → Nat) : (store8 W b e).heap[q]? = W.heap[q]? := by
  unfold store8
  rw [Below.heap_setCell _ _ _ _ h, Below.heap_setCell _ _ _ _ h, Below.heap_setCell _ _ _ _ h, Below.heap_setCell _ _ _ _ h, Below.heap_setCell _ _ _ _ h, Below.heap_setCell _ _ _ _ h, Below.heap_setCell _ _ _ _ h, Below.heap_setCell _ _ _ _ h]
theorem store8_below {W w : World} {b B : Nat} (h : Below B w W) (hb : B ≤ b) (e : Nat → Nat) : Below B w (store8 W b e) :=
  (((((((h.setCell (p := ⟨b, 0, none⟩) hb _).setCell (p := ⟨b, 1, none⟩) hb _).setCell (p := ⟨b, 2, none⟩) hb _).setCell (p := ⟨b, 3, none⟩) hb _).setCell (p := ⟨b, 4, none⟩) hb _).setCell (p := ⟨b, 5, none⟩) hb _).setCell (p := ⟨b, 6, none⟩) hb _).setCell (p := ⟨b, 7, none⟩) hb _
def upd1 (d : Nat → Nat) (i v : Nat) (j : Nat) : Nat := if j = i then v else d j
theorem arr_set {W : World} {b : Nat} {d : Nat → Nat} {T : TypeId} (h : W.heap[b]? = some (.cells (arr8 d) T)) (i : Nat) (hi : i < 8) (v : Nat) : (W.setCell ⟨b, i, none⟩ (.int .u64 (v : Int))).heap[b]? = some (.cells (arr8 (upd1 d i v)) T) := by
  rw [set1 _ h]
  match i, hi with
  | 0, _ => rfl
  | 1, _ => rfl
  | 2, _ => rfl
  | 3, _ => rfl
  | 4, _ => rfl
  | 5, _ => rfl
  | 6, _ => rfl
  | 7, _ => rfl
theorem arr_ext {d e : Nat → Nat} (h : ∀ i, i < 8 → d i = e i) : arr8 d = arr8 e := by
  unfold arr8
  rw [h 0 (by omega), h 1 (by omega), h 2 (by omega), h 3 (by omega), h 4 (by omega), h 5 (by omega), h 6 (by omega), h 7 (by omega)]
theorem set8 {W : World} {b : Nat} {d : Nat → Nat} {T : TypeId} (h : W.heap[b]? = some (.cells (arr8 d) T)) (e : Nat → Nat) : (store8 W b e).heap[b]? = some (.cells (arr8 e) T) := by
  have h1 := arr_set h 0 (by omega) (e 0)
  have h2 := arr_set h1 1 (by omega) (e 1)
  have h3 := arr_set h2 2 (by omega) (e 2)
  have h4 := arr_set h3 3 (by omega) (e 3)
  have h5 := arr_set h4 4 (by omega) (e 4)
  have h6 := arr_set h5 5 (by omega) (e 5)
  have h7 := arr_set h6 6 (by omega) (e 6)
  have h8 := arr_set h7 7 (by omega) (e 7)
  have hx : arr8 (upd1 (upd1 (upd1 (upd1 (upd1 (upd1 (upd1 (upd1 d 0 (e 0)) 1 (e 1)) 2 (e 2)) 3 (e 3)) 4 (e 4)) 5 (e 5)) 6 (e 6)) 7 (e 7)) = arr8 e := rfl
  rw [hx] at h8
  exact h8
def partD (x : Nat) (d : Nat → Nat) (i j : Nat) : Nat := if j < i then prodD x d j else 0
theorem part_next (x : Nat) (d : Nat → Nat) (i : Nat) : upd1 (partD x d i) i (prodD x d i) = partD x d (i + 1) := by
  funext j
  unfold upd1 partD
  by_cases h1 : j = i
  · subst h1
    rw [if_pos rfl, if_pos (by omega)]
  · rw [if_neg h1]
    by_cases h2 : j < i
    · rw [if_pos h2, if_pos (by omega)]
    · rw [if_neg h2, if_neg (by omega)]

set_option maxHeartbeats 1000000 in
theorem digits_any (n : Nat) (hn : n < 18446744073709551616) (w : World) : Calls Try.prog 40 #[.int .u64 (n : Int)] w fun e w' => e = .returned (.agg (arr8 (numD n))) ∧ Below w.heap.size w w' := by
  go_enter Try.func40, Try.ntmps40
  go_wp2
  refine bodyPost_ret (v := .agg (arr8 (numD n))) (by simp [results, Try.results40, go_sem, numD]) rfl ⟨rfl, (Below.refl _ w).alloc (Nat.le_refl _) _⟩

set_option maxRecDepth 100000 in
set_option maxHeartbeats 4000000 in
theorem times8_any (d : Nat → Nat) (hd : ∀ i, i < 8 → d i < 4294967296) (x : Nat) (hx : x ≤ 4294967295) (w : World) : Calls Try.prog 41 #[.agg (arr8 d), .int .u64 (x : Int)] w fun e w' => e = .returned (.agg (arr8 (prodD x d))) ∧ Below w.heap.size w w' := by
  obtain ⟨W3, hW3, hz3, p0, p1, p2, hB3⟩ := heap_three w (.cells (arr8 d) 92) (.cells (arr8 fun _ => 0) 92) (.cells (arr8 fun _ => 0) 92)
  have hW3' : ((w.alloc (.cells (arr8 d) 92)).alloc (.cells #[.int .u64 0, .int .u64 0, .int .u64 0, .int .u64 0, .int .u64 0, .int .u64 0, .int .u64 0, .int .u64 0] 92)).alloc (.cells #[.int .u64 0, .int .u64 0, .int .u64 0, .int .u64 0, .int .u64 0, .int .u64 0, .int .u64 0, .int .u64 0] 92) = W3 := hW3.symm
  have p2' : W3.heap[w.heap.size + 1 + 1]? = some (.cells (arr8 (partD x d 0)) 92) := p2
  have HW3 := Lib.hid hW3'
  have HB3 := Lib.hid hB3
  have P0 := Lib.hid p0
  have P1 := Lib.hid p1
  have P2 := Lib.hid p2'
  have HD := Lib.hid hd
  have HZ3 := Lib.hid hz3
  clear hW3 hW3' hB3 p0 p1 p2 p2' hd hz3
  go_enter Try.func41, Try.ntmps41
  go_upto_region 2 with (fail)
  rw [HW3.out]
  go_wp2
  go_loopw [6, 7] (fun r i wr => ∃ j : Nat, i = .int .i64 (j : Int) ∧ j ≤ 8 ∧ r = .int .u64 (carry x d j : Nat) ∧ Hid (wr.heap[w.heap.size]? = some (.cells (arr8 d) 92)) ∧ Hid (wr.heap[w.heap.size + 1]? = some (.cells (arr8 fun _ => 0) 92)) ∧ Hid (wr.heap[w.heap.size + 1 + 1]? = some (.cells (arr8 (partD x d j)) 92)) ∧ Hid (Below w.heap.size w wr)) (fun _ i _ => 8 - (intOf i).toNat)
  case atStart => exact ⟨0, rfl, by omega, rfl, P0, P1, P2, HB3⟩
  case round =>
    obtain ⟨j, rfl, hj, rfl, HQ0, HQ1, HQ2, HBR⟩ := hrel
    by_cases hlt : j < 8
    · have q0 := arr_at HQ0.out j hlt
      have q2 := arr_at HQ2.out j hlt
      have l2 := lt_of HQ2.out
      have f2 : ∀ i, wr.frozen? ⟨w.heap.size + 1 + 1, i, none⟩ = false := fun i => by simp [World.frozen?, HQ2.out]
      obtain ⟨hc, hs⟩ := carry_lt hx HD.out j (by omega)
      have hs := hs hlt
      have hdj := HD.out j hlt
      obtain ⟨c, hcc⟩ : ∃ c, carry x d j = c := ⟨_, rfl⟩
      obtain ⟨e, hee⟩ : ∃ e, d j = e := ⟨_, rfl⟩
      obtain ⟨p, hpp⟩ : ∃ p, e * x = p := ⟨_, rfl⟩
      have hnx : carry x d (j + 1) = (p + c) / 4294967296 := by show (d j * x + carry x d j) / _ = _; rw [hcc, hee, hpp]
      have hpr : prodD x d j = (p + c) % 4294967296 := by show (d j * x + carry x d j) % _ = _; rw [hcc, hee, hpp]
      rw [hcc, hee, hpp] at hs
      rw [hee] at q0 hdj
      rw [hcc] at hc ⊢
      have hmul : (e : Int) * (x : Int) = (p : Int) := by rw [← hpp]; exact (Int.natCast_mul e x).symm
      have HNX := Lib.hid hnx
      have HPR := Lib.hid hpr
      clear hcc hee hpp hnx hpr
      go_wp2
      refine ⟨⟨j + 1, by go_num, hlt, ?_, ?_, ?_, ?_, ?_⟩, by simp [intOf]; omega⟩
      · rw [HNX.out]
        exact congrArg (Value.int .u64) (by omega)
      · exact Lib.hid ((Below.heap_setCell _ _ _ _ (by simp; omega)).trans HQ0.out)
      · exact Lib.hid ((Below.heap_setCell _ _ _ _ (by simp)).trans HQ1.out)
      · refine Lib.hid ?_
        rw [show ((p : Int) + (c : Int)) % 4294967296 = ((prodD x d j : Nat) : Int) by rw [HPR.out]; omega]
        rw [arr_set HQ2.out j hlt, part_next]
      · exact Lib.hid (HBR.out.setCell (p := ⟨_, _, none⟩) (by show w.heap.size ≤ w.heap.size + 1 + 1; omega) _)
    · have e : j = 8 := by omega
      subst e
      have hp8 : arr8 (partD x d 8) = arr8 (prodD x d) := arr_ext fun i hi => if_pos hi
      have h2 := HQ2.out
      rw [hp8] at h2
      have H2 := Lib.hid h2
      have h1 := HQ1.out
      have l1 := lt_of h1
      have f1 : ∀ i, wr.frozen? ⟨w.heap.size + 1, i, none⟩ = false := fun i => by simp [World.frozen?, h1]
      clear hp8 HQ2 
      obtain ⟨a0, a1, a2, a3, a4, a5, a6, a7⟩ := box8 h2
      obtain ⟨z0, z1, z2, z3, z4, z5, z6, z7⟩ := box8 h1
      have HS := Lib.hid (set8 h1 (prodD x d))
      have HSB := Lib.hid (store8_below HBR.out (b := w.heap.size + 1) (by omega) (prodD x d))
      clear h1 h2
      go_wp2
      obtain ⟨W5, hW5⟩ : ∃ W, store8 wr (w.heap.size + 1) (prodD x d) = W := ⟨_, rfl⟩
      rw [show (((((((wr.setCell ⟨w.heap.size + 1, 0, none⟩ (.int .u64 (prodD x d 0 : Int))).setCell ⟨w.heap.size + 1, 1, none⟩ (.int .u64 (prodD x d 1 : Int))).setCell ⟨w.heap.size + 1, 2, none⟩ (.int .u64 (prodD x d 2 : Int))).setCell ⟨w.heap.size + 1, 3, none⟩ (.int .u64 (prodD x d 3 : Int))).setCell ⟨w.heap.size + 1, 4, none⟩ (.int .u64 (prodD x d 4 : Int))).setCell ⟨w.heap.size + 1, 5, none⟩ (.int .u64 (prodD x d 5 : Int))).setCell ⟨w.heap.size + 1, 6, none⟩ (.int .u64 (prodD x d 6 : Int))).setCell ⟨w.heap.size + 1, 7, none⟩ (.int .u64 (prodD x d 7 : Int)) = W5 from hW5]
      have h5 := HS.out
      have h6 := HSB.out
      rw [hW5] at h5 h6
      obtain ⟨c0, c1, c2, c3, c4, c5, c6, c7⟩ := box8 h5
      refine bodyPost_ret (v := .agg (arr8 (prodD x d))) (by simp [results, Try.results41, go_sem, c0, c1, c2, c3, c4, c5, c6, c7]) rfl ⟨rfl, h6⟩

end Go.Proofs.Ytpdhkpgnajfobaa
end
section
/- skylightlaw10.below: the greater bound, by digits of 2^32. -/
namespace Go.Proofs.Dg
theorem list8_range (d : Nat → Nat) : list8 d = (List.range 8).map d := rfl
theorem cmp8 {d e : Nat → Nat} (hd : ∀ i, i < 8 → d i < 4294967296) (he : ∀ i, i < 8 → e i < 4294967296) {m : Nat} (hm : m < 8) (hup : ∀ i, m < i → i < 8 → d i = e i) (hne : d m ≠ e m) (hle : val (list8 d) ≤ val (list8 e)) : d m < e m := by
  have h1 : (list8 d)[m]'(by simpa [list8] using hm) = d m := by simp [list8_range]
  have h2 : (list8 e)[m]'(by simpa [list8] using hm) = e m := by simp [list8_range]
  have := (val_cmp (a := list8 d) (b := list8 e) rfl (low8 hd) (low8 he) (i := m) (by simpa [list8] using hm) (by
    refine List.ext_getElem (by simp [list8]) fun i h h' => ?_
    simp only [list8_range, List.getElem_drop, List.getElem_map, List.getElem_range]
    refine hup _ (by omega) ?_
    simp [list8] at h
    omega) (by rw [h1, h2]; exact hne)).1 hle
  rwa [h1, h2] at this
/-- One of the two sides, after so many rounds. -/
def side (x y n : Nat) : Nat → Nat → Nat
  | 0 => prodD x (numD n)
  | i + 1 => prodD y (side x y n i)
theorem num_lt {n : Nat} (hn : n < 18446744073709551616) (i : Nat) : numD n i < 4294967296 := by
  unfold numD
  split
  · omega
  · split <;> omega
theorem side_lt (x y n : Nat) : ∀ g i, side x y n g i < 4294967296
  | 0, _ => prod_lt _ _ _
  | _ + 1, _ => prod_lt _ _ _
theorem side_val {x y n : Nat} (hx : x ≤ 2048) (hy : y ≤ 2048) (hn : n < 18446744073709551616) : ∀ g, g ≤ 4 → val (list8 (side x y n g)) = n * x * y ^ g ∧ n * x * y ^ g ≤ 18446744073709551616 * 2048 * 2048 ^ g
  | 0, _ => by
    have hb : n * x ≤ 18446744073709551616 * 2048 := Nat.mul_le_mul (by omega) hx
    have h : val (list8 (numD n)) * x < 4294967296 ^ 8 := by rw [val_num]; omega
    refine ⟨?_, ?_⟩
    · show val (list8 (prodD x (numD n))) = _
      rw [val_prod h, val_num, Nat.pow_zero, Nat.mul_one]
    · rw [Nat.pow_zero, Nat.mul_one, Nat.pow_zero, Nat.mul_one]
      exact hb
  | g + 1, hg => by
    obtain ⟨h1, h2⟩ := side_val hx hy hn g (by omega)
    have hb : n * x * y ^ g * y ≤ 18446744073709551616 * 2048 * 2048 ^ g * 2048 := Nat.mul_le_mul h2 hy
    have hc : (18446744073709551616 * 2048 * 2048 ^ g * 2048 : Nat) < 4294967296 ^ 8 := by
      rcases (by omega : g = 0 ∨ g = 1 ∨ g = 2 ∨ g = 3) with rfl | rfl | rfl | rfl <;> decide
    refine ⟨?_, ?_⟩
    · show val (list8 (prodD y (side x y n g))) = _
      rw [val_prod (by rw [h1]; omega), h1, Nat.pow_succ, Nat.mul_assoc]
    · rw [Nat.pow_succ, ← Nat.mul_assoc, Nat.pow_succ, ← Nat.mul_assoc]
      exact hb
end Go.Proofs.Dg
namespace Go.Proofs.Ytpdhkpgnajfobaa
open Go.RowKit Go.Shelf Go.Proofs.Rw Go.Proofs.Lh Go.Proofs.Rf Go.Proofs.Dg

structure Two8 (w W : World) (a b : Nat) (d e : Nat → Nat) : Prop where
  ha : W.heap[a]? = some (.cells (arr8 d) 92)
  hb : W.heap[b]? = some (.cells (arr8 e) 92)
  ne : a ≠ b
  la : w.heap.size ≤ a
  lb : w.heap.size ≤ b
  bel : Below w.heap.size w W
theorem Two8.grow {w W W' : World} {a b : Nat} {d e : Nat → Nat} (h : Two8 w W a b d e) (hg : Below W.heap.size W W') : Two8 w W' a b d e :=
  ⟨(hg.block _ (lt_of h.ha)).trans h.ha, (hg.block _ (lt_of h.hb)).trans h.hb, h.ne, h.la, h.lb, thn h.bel hg⟩
theorem Two8.setA {w W : World} {a b : Nat} {d e : Nat → Nat} (h : Two8 w W a b d e) (f : Nat → Nat) : Two8 w (store8 W a f) a b f e :=
  ⟨set8 h.ha f, (store8_ne (Ne.symm h.ne) f).trans h.hb, h.ne, h.la, h.lb, store8_below h.bel h.la f⟩
theorem Two8.setB {w W : World} {a b : Nat} {d e : Nat → Nat} (h : Two8 w W a b d e) (f : Nat → Nat) : Two8 w (store8 W b f) a b d f :=
  ⟨(store8_ne h.ne f).trans h.ha, set8 h.hb f, h.ne, h.la, h.lb, store8_below h.bel h.lb f⟩
theorem frozen8 {W : World} {b : Nat} {d : Nat → Nat} {T : TypeId} (h : W.heap[b]? = some (.cells (arr8 d) T)) : ∀ i, W.frozen? ⟨b, i, none⟩ = false := fun i => by simp [World.frozen?, h]

set_option maxRecDepth 100000 in
set_option maxHeartbeats 4000000 in
theorem below_any (x g est n : Nat) (hx : x ≤ 1024) (hg : g ≤ 4) (he : est < 18446744073709551616) (hn : n < 18446744073709551616) (w : World) : Calls Try.prog 21 #[.int .u64 (x : Int), .int .i64 (g : Int), .int .u64 (est : Int), .int .u64 (n : Int)] w fun e w' => ∃ t : Bool, e = .returned (.bool t) ∧ (est * x * x ^ g ≤ n * (x + 1) * (x + 2) ^ g → t = true) ∧ Below w.heap.size w w' := by
  have HDE := Lib.hid (fun W : World => digits_any est he W)
  have HDN := Lib.hid (fun W : World => digits_any n hn W)
  have HT0 := Lib.hid (fun (W : World) => times8_any (numD est) (fun i _ => num_lt he i) x (by omega) W)
  have hx1 : ((x : Int) + 1) = ((x + 1 : Nat) : Int) := rfl
  have HT1 := Lib.hid (fun (W : World) => times8_any (numD n) (fun i _ => num_lt hn i) (x + 1) (by omega) W)
  have HTA := Lib.hid (fun (k : Nat) (W : World) => times8_any (side x x est k) (fun i _ => side_lt _ _ _ _ _) x (by omega) W)
  have HTB := Lib.hid (fun (k : Nat) (W : World) => times8_any (side (x + 1) (x + 2) n k) (fun i _ => side_lt _ _ _ _ _) (x + 2) (by omega) W)
  clear hx1
  go_enter Try.func21, Try.ntmps21
  go_upto_region 1 with (fail)
  go_upto_region 2 with (go_at_call 40; refine (HDE.out _).mono ?_; rintro e w2 ⟨rfl, hb2⟩; have HB2 := Lib.hid hb2; clear hb2)
  obtain ⟨W1, hW1⟩ : ∃ W, w2.alloc (.cells (arr8 (numD est)) 92) = W := ⟨_, rfl⟩
  have b1 : Below w2.heap.size w2 W1 := by rw [← hW1]; exact (Below.refl _ w2).alloc (Nat.le_refl _) _
  have p1 : W1.heap[w2.heap.size]? = some (.cells (arr8 (numD est)) 92) := by rw [← hW1]; exact heap_alloc_new w2 _
  rw [hW1]
  have HB1 := Lib.hid (HB2.out.trans (b1.mono HB2.out.size))
  have HP1 := Lib.hid p1
  have HL1 := Lib.hid HB2.out.size
  obtain ⟨a, ha⟩ : ∃ a, w2.heap.size = a := ⟨_, rfl⟩
  rw [ha] at HP1 HL1 ⊢
  clear b1 p1 hW1 ha HB2 HDE
  go_upto_region 3 with (go_at_call 40; refine (HDN.out _).mono ?_; rintro e w3 ⟨rfl, hb3⟩; have HB3 := Lib.hid hb3; clear hb3)
  obtain ⟨W2, hW2⟩ : ∃ W, w3.alloc (.cells (arr8 (numD n)) 92) = W := ⟨_, rfl⟩
  have b2 : Below w3.heap.size w3 W2 := by rw [← hW2]; exact (Below.refl _ w3).alloc (Nat.le_refl _) _
  have p2 : W2.heap[w3.heap.size]? = some (.cells (arr8 (numD n)) 92) := by rw [← hW2]; exact heap_alloc_new w3 _
  rw [hW2]
  have b12 := thn HB3.out b2
  have ht : Two8 w W2 a w3.heap.size (numD est) (numD n) := ⟨(b12.block _ (lt_of HP1.out)).trans HP1.out, p2, by have := lt_of HP1.out; have := HB3.out.size; omega, HL1.out, by have := lt_of HP1.out; have := HB3.out.size; have := HL1.out; omega, thn HB1.out b12⟩
  obtain ⟨b, hb⟩ : ∃ a, w3.heap.size = a := ⟨_, rfl⟩
  rw [hb] at ht ⊢
  have T0 := Lib.hid ht
  obtain ⟨y0, y1, y2, y3, y4, y5, y6, y7⟩ := box8 ht.ha
  clear b2 p2 hW2 hb HB3 HDN b12 ht HB1 HP1 HL1
  go_upto_region 4 with (go_at_call 41; refine (HT0.out _).mono ?_; rintro e w4 ⟨rfl, hb4⟩; have T1 := Lib.hid (T0.out.grow hb4); have f1 := frozen8 T1.out.ha; obtain ⟨c0, c1, c2, c3, c4, c5, c6, c7⟩ := box8 T1.out.ha; clear hb4)
  have T2 := Lib.hid (T1.out.setA (side x x est 0))
  rw [show ((((((((w4.setCell ⟨a, 0, none⟩ (.int .u64 (prodD x (numD est) 0 : Int))).setCell ⟨a, 1, none⟩ (.int .u64 (prodD x (numD est) 1 : Int))).setCell ⟨a, 2, none⟩ (.int .u64 (prodD x (numD est) 2 : Int))).setCell ⟨a, 3, none⟩ (.int .u64 (prodD x (numD est) 3 : Int))).setCell ⟨a, 4, none⟩ (.int .u64 (prodD x (numD est) 4 : Int))).setCell ⟨a, 5, none⟩ (.int .u64 (prodD x (numD est) 5 : Int))).setCell ⟨a, 6, none⟩ (.int .u64 (prodD x (numD est) 6 : Int))).setCell ⟨a, 7, none⟩ (.int .u64 (prodD x (numD est) 7 : Int))) = store8 w4 a (side x x est 0) from rfl]
  obtain ⟨W4, hW4⟩ : ∃ W, store8 w4 a (side x x est 0) = W := ⟨_, rfl⟩
  rw [hW4] at T2 ⊢
  clear hW4 T1 c0 c1 c2 c3 c4 c5 c6 c7 f1 y0 y1 y2 y3 y4 y5 y6 y7 T0 HT0
  obtain ⟨y0, y1, y2, y3, y4, y5, y6, y7⟩ := box8 T2.out.hb
  have hxa : (x : Int) + 1 < 18446744073709551616 := by omega
  go_upto_region 5 with (go_at_call 41; refine (HT1.out _).mono ?_; rintro e w5 ⟨rfl, hb5⟩; have T3 := Lib.hid (T2.out.grow hb5); have f1 := frozen8 T3.out.hb; obtain ⟨c0, c1, c2, c3, c4, c5, c6, c7⟩ := box8 T3.out.hb; clear hb5)
  have T4 := Lib.hid (T3.out.setB (side (x + 1) (x + 2) n 0))
  rw [show ((((((((w5.setCell ⟨b, 0, none⟩ (.int .u64 (prodD (x + 1) (numD n) 0 : Int))).setCell ⟨b, 1, none⟩ (.int .u64 (prodD (x + 1) (numD n) 1 : Int))).setCell ⟨b, 2, none⟩ (.int .u64 (prodD (x + 1) (numD n) 2 : Int))).setCell ⟨b, 3, none⟩ (.int .u64 (prodD (x + 1) (numD n) 3 : Int))).setCell ⟨b, 4, none⟩ (.int .u64 (prodD (x + 1) (numD n) 4 : Int))).setCell ⟨b, 5, none⟩ (.int .u64 (prodD (x + 1) (numD n) 5 : Int))).setCell ⟨b, 6, none⟩ (.int .u64 (prodD (x + 1) (numD n) 6 : Int))).setCell ⟨b, 7, none⟩ (.int .u64 (prodD (x + 1) (numD n) 7 : Int))) = store8 w5 b (side (x + 1) (x + 2) n 0) from rfl]
  obtain ⟨W5, hW5⟩ : ∃ W, store8 w5 b (side (x + 1) (x + 2) n 0) = W := ⟨_, rfl⟩
  rw [hW5] at T4 ⊢
  clear hW5 T3 c0 c1 c2 c3 c4 c5 c6 c7 f1 y0 y1 y2 y3 y4 y5 y6 y7 T2 HT1
  go_wp2
  go_loopw [11] (fun p wr => ∃ i : Nat, p = .int .i64 (i : Int) ∧ i ≤ g ∧ Hid (Two8 w wr a b (side x x est i) (side (x + 1) (x + 2) n i))) (fun p _ => g - (intOf p).toNat)
  case atStart => exact ⟨0, rfl, Nat.zero_le _, T4⟩
  case round =>
    obtain ⟨i, rfl, hi, T5⟩ := hrel
    by_cases hlt : i < g
    · obtain ⟨y0, y1, y2, y3, y4, y5, y6, y7⟩ := box8 T5.out.ha
      go_upto_region 9 with (go_at_call 41; refine (HTA.out i _).mono ?_; rintro e w6 ⟨rfl, hb6⟩; have T6 := Lib.hid (T5.out.grow hb6); have f1 := frozen8 T6.out.ha; obtain ⟨c0, c1, c2, c3, c4, c5, c6, c7⟩ := box8 T6.out.ha; clear hb6)
      have T7 := Lib.hid (T6.out.setA (side x x est (i + 1)))
      rw [show ((((((((w6.setCell ⟨a, 0, none⟩ (.int .u64 (prodD x (side x x est i) 0 : Int))).setCell ⟨a, 1, none⟩ (.int .u64 (prodD x (side x x est i) 1 : Int))).setCell ⟨a, 2, none⟩ (.int .u64 (prodD x (side x x est i) 2 : Int))).setCell ⟨a, 3, none⟩ (.int .u64 (prodD x (side x x est i) 3 : Int))).setCell ⟨a, 4, none⟩ (.int .u64 (prodD x (side x x est i) 4 : Int))).setCell ⟨a, 5, none⟩ (.int .u64 (prodD x (side x x est i) 5 : Int))).setCell ⟨a, 6, none⟩ (.int .u64 (prodD x (side x x est i) 6 : Int))).setCell ⟨a, 7, none⟩ (.int .u64 (prodD x (side x x est i) 7 : Int))) = store8 w6 a (side x x est (i + 1)) from rfl]
      obtain ⟨W6, hW6⟩ : ∃ W, store8 w6 a (side x x est (i + 1)) = W := ⟨_, rfl⟩
      rw [hW6] at T7 ⊢
      clear hW6 T6 c0 c1 c2 c3 c4 c5 c6 c7 f1 y0 y1 y2 y3 y4 y5 y6 y7 T5
      obtain ⟨y0, y1, y2, y3, y4, y5, y6, y7⟩ := box8 T7.out.hb
      have hxb : (x : Int) + 2 < 18446744073709551616 := by omega
      go_wp2_with (go_at_call 41; refine (HTB.out i _).mono ?_; rintro e w7 ⟨rfl, hb7⟩; have T8 := Lib.hid (T7.out.grow hb7); have f1 := frozen8 T8.out.hb; obtain ⟨c0, c1, c2, c3, c4, c5, c6, c7⟩ := box8 T8.out.hb; clear hb7)
      refine ⟨⟨i + 1, by go_num, hlt, Lib.hid ?_⟩, by simp [intOf]; omega⟩
      exact T8.out.setB (side (x + 1) (x + 2) n (i + 1))
    · have e : i = g := by omega
      subst e
      go_wp2
      go_loopw [12] (fun p wr => ∃ m : Nat, p = .int .i64 ((m : Int) - 1) ∧ m ≤ 8 ∧ Hid (Two8 w wr a b (side x x est i) (side (x + 1) (x + 2) n i)) ∧ Hid (∀ k, m ≤ k → k < 8 → side x x est i k = side (x + 1) (x + 2) n i k)) (fun p _ => (intOf p + 1).toNat)
      case atStart => exact ⟨8, rfl, by omega, T5, Lib.hid fun k h1 h2 => absurd h1 (by omega)⟩
      case round =>
        obtain ⟨m, rfl, hm, T9, HEQ⟩ := hrel
        rcases m with _ | k
        · rw [show ((0 : Nat) : Int) - 1 = -1 from rfl]
          go_wp2
          refine bodyPost_ret (v := .bool true) (by simp [results, Try.results21, go_sem]) rfl ⟨true, rfl, fun _ => rfl, T9.out.bel⟩
        · rw [show ((k + 1 : Nat) : Int) - 1 = (k : Int) by omega]
          have q1 := arr_at T9.out.ha k (by omega)
          have q2 := arr_at T9.out.hb k (by omega)
          obtain ⟨y, hy⟩ : ∃ y, side x x est i k = y := ⟨_, rfl⟩
          obtain ⟨z, hz⟩ : ∃ y, side (x + 1) (x + 2) n i k = y := ⟨_, rfl⟩
          rw [hy] at q1
          rw [hz] at q2
          have HY := Lib.hid hy
          have HZ := Lib.hid hz
          clear hy hz
          by_cases hyz : y = z
          · subst hyz
            go_upto_region 13 with (fail)
            go_quiet (fail)
            go_wp2
            refine ⟨⟨k, rfl, by omega, Lib.hid (T9.out.grow (below_drewN (Below.refl _ _) _)), Lib.hid fun j h1 h2 => ?_⟩, by simp [intOf] <;> omega⟩
            rcases Nat.lt_or_ge k j with h | h
            · exact HEQ.out j (by omega) h2
            · rw [show j = k by omega, HY.out, HZ.out]
          · have hbq : ((y : Int) == (z : Int)) = false := by rw [beq_eq_false_iff_ne]; omega
            have hcm : est * x * x ^ i ≤ n * (x + 1) * (x + 2) ^ i → y < z := by
              intro hle
              have := cmp8 (d := side x x est i) (e := side (x + 1) (x + 2) n i) (fun _ _ => side_lt _ _ _ _ _) (fun _ _ => side_lt _ _ _ _ _) (m := k) (by omega) (fun j h1 h2 => HEQ.out j (by omega) h2) (by rw [HY.out, HZ.out]; exact hyz) (by rw [(side_val (by omega) (by omega) he i hg).1, (side_val (by omega) (by omega) hn i hg).1]; exact hle)
              rwa [HY.out, HZ.out] at this
            have HCM := Lib.hid hcm
            clear hcm hyz
            go_upto_region 13 with (fail)
            go_quiet (fail)
            have hbn : ((y : Int) != (z : Int)) = true := by simp [bne, hbq]
            have T10 := Lib.hid (T9.out.grow (below_drewN (Below.refl _ _) nq))
            have q1' : (wr.drewN nq).cell? ⟨a, k, none⟩ = some (.int .u64 (y : Int)) := q1
            have q2' : (wr.drewN nq).cell? ⟨b, k, none⟩ = some (.int .u64 (z : Int)) := q2
            generalize wr.drewN nq = W9 at *
            rw [hbn]
            clear hbq hbn q1 q2 T9
            go_upto_region 14 with (fail)
            go_quiet (fail)
            go_wp2
            refine bodyPost_ret (v := .bool (decide (y < z))) (by simp [results, Try.results21, go_sem]) rfl ⟨decide (y < z), rfl, fun h => decide_eq_true (HCM.out h), thn T10.out.bel (below_drewN (Below.refl _ _) _)⟩

end Go.Proofs.Ytpdhkpgnajfobaa
end
section
/- The contracts of skylightref08.Parts and skylightref08.Of. -/
namespace Go.Proofs.Ytpdhkpgnajfobaa
open Go.RowKit Go.Shelf Go.Proofs.Rw Go.Proofs.Lh

end Go.Proofs.Ytpdhkpgnajfobaa
end
section
/- The contract of skylightref08.Exact: how many units really came within. -/
namespace Go.Proofs.Ytpdhkpgnajfobaa
open Go.RowKit Go.Shelf Go.Proofs.Rw Go.Proofs.Lh Go.Proofs.Rf

set_option maxRecDepth 100000 in
set_option maxHeartbeats 4000000 in
theorem exact_any (k : Int) (k0 : -9223372036854775808 ≤ k) (k1 : k ≤ 9223372036854775807) (ds : List Sp) (f v : Nat) (hf : f < 18446744073709551616) (w : World) (Ad : Option Addr) (nd cd : Nat) (hD : Deeds w Ad nd cd ds) :
    Calls Try.prog 39 #[.int .i64 k, .slice Ad nd cd, .int .u64 (f : Int), .int .u64 (v : Int)] w fun e w' => e = .returned (.int .u64 (exactN (kOf k) (withB f v) ds (doneN ds) : Nat)) ∧ Below w.heap.size w w' := by
  obtain ⟨kk, hkk⟩ : ∃ kk, kOf k = kk := ⟨_, rfl⟩
  have hke := kOf_eq k
  have hkl := kOf_le k
  rw [hkk] at hke hkl ⊢
  have HKE := Lib.hid hke
  have HD := Lib.hid hD
  clear hkk hke hD
  obtain ⟨W0, hW0⟩ : ∃ W, w.alloc (.cells #[.int .i64 (kk : Int), .int .i64 0, .slice none 0 0] 29) = W := ⟨_, rfl⟩
  have hB0 : Below w.heap.size w W0 := by rw [← hW0]; exact (Below.refl _ w).alloc (Nat.le_refl _) _
  have p1 : W0.heap[w.heap.size]? = some (.cells #[.int .i64 (kk : Int), .int .i64 0, .slice none 0 0] 29) := by rw [← hW0]; exact heap_alloc_new w _
  have HW0 := Lib.hid hW0
  have HB0 := Lib.hid hB0
  have P1 := Lib.hid p1
  clear hW0 hB0 p1
  go_enter Try.func39, Try.ntmps39
  go_upto_region 1 with (fail)
  go_cut [9] from 15 to 19 (fun s9 wx => s9 = .pointer (some ⟨w.heap.size, 0, none⟩) ∧ W0 = wx)
  case first =>
    by_cases h : 0 ≤ k
    · go_wp2
      go_meet
      case rel =>
        refine ⟨rfl, ?_⟩
        first
          | (rw [← HW0.out, show (2 + k % 30 : Int) = (kk : Int) by have := HKE.out; rw [this, Int.max_eq_left h]]; done)
          | (rw [← HW0.out, HKE.out]; done)
    · go_wp2
      go_meet
      case rel =>
        refine ⟨rfl, ?_⟩
        have e : (kk : Int) = 2 := by have := HKE.out; rw [this]; omega
        first
          | (rw [← HW0.out, e]; done)
          | (rw [← HW0.out, HKE.out]; done)
  case rest =>
    obtain ⟨rfl, rfl⟩ := hcut
    clear HW0 HKE
    go_wp2
    go_loopw [10, 11, 12] (fun s10 s11 s12 wr => ∃ (j : Nat) (A : Option Addr) (c : Nat), s12 = .int .i64 (j : Int) ∧ s10 = .int .u64 ((play kk ds j).1 : Int) ∧ s11 = .int .u64 (exactN kk (withB f v) ds j : Nat) ∧ j ≤ 30 ∧ j ≤ nd ∧ wr.heap[w.heap.size]? = some (.cells #[.int .i64 (kk : Int), .int .i64 0, .slice A (play kk ds j).2.length c] 29) ∧ Levs wr wr.heap.size (.slice A (play kk ds j).2.length c) (play kk ds j).2 ∧ Below w.heap.size W0 wr) (fun _ _ s12 _ => 30 - (intOf s12).toNat)
    case atStart =>
      refine ⟨0, none, 0, rfl, ?_, ?_, by omega, Nat.zero_le _, ?_, ?_, Below.refl _ _⟩
      · rw [play_zero]
        rfl
      · rw [exact_zero]
        rfl
      · rw [play_zero]
        exact P1.out
      · rw [play_zero]
        exact Levs.nil
    case round =>
      obtain ⟨j, A, c, rfl, rfl, rfl, hj30, hjn, hbx, hL, hbel⟩ := hrel
      have hbw : Below w.heap.size w wr := HB0.out.trans hbel
      have hdl := HD.out.1
      have hmd := play_made (k := kk) hkl.1 (by omega) ds j (by omega)
      have htk := play_tick kk ds j (by omega)
      have hex := fun (h : j < ds.length) => exact_succ kk (withB f v) ds j h
      have hel := fun (h : j + 1 ≤ ds.length) => exact_le kk (withB f v) ds (j + 1) h
      have hm2 := fun (h : j + 1 ≤ ds.length) => (play_made (k := kk) hkl.1 (by omega) ds (j + 1) h).small
      obtain ⟨tk0, htk0⟩ : ∃ t, (play kk ds j).1 = t := ⟨_, rfl⟩
      obtain ⟨ls, hls⟩ : ∃ l, (play kk ds j).2 = l := ⟨_, rfl⟩
      obtain ⟨N, hN⟩ : ∃ n, ls.length = n := ⟨_, rfl⟩
      obtain ⟨ex, hxe⟩ : ∃ n, exactN kk (withB f v) ds j = n := ⟨_, rfl⟩
      rw [htk0] at htk ⊢
      rw [hxe]
      rw [hls, hN] at hbx hL
      rw [hls] at hmd
      simp only [htk0, hls, hxe] at hex
      obtain ⟨x0, x1, x2⟩ := box3 hbx
      have hlx := lt_of hbx
      by_cases hlt : j < nd ∧ j < 30
      · have hdeed := HD.out.2.1.below hbw
        obtain ⟨bd, od, rfl, hbdw, -, hcd⟩ := sp_at hdeed (by omega)
        have hbd : bd < wr.heap.size := Nat.lt_of_lt_of_le hbdw hbw.size
        obtain ⟨d0, d1⟩ := hcd j (by omega)
        have hin := HD.out.2.2 (ds[j]'(by omega)) (List.getElem_mem _)
        have hps := play_succ kk ds j (by omega)
        have hex1 := hex (by omega)
        have hel1 := Nat.le_trans (hel (by omega)) (hm2 (by omega))
        obtain ⟨x, hx⟩ : ∃ x, ds[j]'(by omega) = x := ⟨_, rfl⟩
        rw [hx] at d0 d1 hin hps hex1
        obtain ⟨gp, hgp⟩ : ∃ g, x.1 = g := ⟨_, rfl⟩
        obtain ⟨wt, hwt⟩ : ∃ g, x.2 = g := ⟨_, rfl⟩
        rw [hgp] at d0 hin hex1
        rw [hwt] at d1 hin hex1
        obtain ⟨tk, htkk⟩ : ∃ t, tk0 + gp % 1000 = t := ⟨_, rfl⟩
        rw [htkk] at hex1
        have htk2 : (play kk ds (j + 1)).1 = tk := by rw [hps, step_tick, htk0, hgp, htkk]
        have hlv2 : (play kk ds (j + 1)).2 = if code ls tk wt = 0 then addW kk ls tk wt else ls := by rw [hps, step_levs, htk0, hls, hgp, hwt, htkk]
        obtain ⟨C, hC⟩ : ∃ C : Int, ((code ls tk wt : Nat) : Int) = C := ⟨_, rfl⟩
        obtain ⟨KO, hKO⟩ : ∃ K, outK kk ls tk wt = K := ⟨_, rfl⟩
        obtain ⟨R, hRR⟩ : ∃ R, outL kk ls tk wt = R := ⟨_, rfl⟩
        obtain ⟨z0, hz0⟩ : ∃ z, withB f v tk = z := ⟨_, rfl⟩
        rw [hz0] at hex1
        have hok : C = 0 → (KO = (kk : Int) ∧ R = (play kk ds (j + 1)).2) ∧ exactN kk (withB f v) ds (j + 1) = if z0 = true then ex + wt else ex := fun e => by
          have hc : code ls tk wt = 0 := by omega
          refine ⟨?_, ?_⟩
          · rw [hlv2, if_pos hc, ← hKO, ← hRR]
            unfold outK outL
            rw [if_pos hc, if_pos hc]
            exact ⟨rfl, rfl⟩
          · rw [hex1]
            cases z0 <;> simp [hc]
        have hno : C ≠ 0 → (play kk ds (j + 1)).2 = ls ∧ exactN kk (withB f v) ds (j + 1) = ex := fun e => by
          have hc : code ls tk wt ≠ 0 := by omega
          exact ⟨by rw [hlv2, if_neg hc], by rw [hex1, if_neg (fun h => hc h.1)]⟩
        have hadd : ∀ W, Below wr.heap.size wr W → Calls Try.prog 31 #[.agg #[.int .i64 (kk : Int), .int .i64 0, .slice A N c], .int .u64 (tk : Int), .int .u64 (wt : Int)] W fun e w' => ∃ A' c', e = .returned (.tuple #[.agg #[.int .i64 KO, .int .i64 0, .slice A' R.length c'], .int .i64 C]) ∧ Levs w' w'.heap.size (.slice A' R.length c') R ∧ Below W.heap.size W w' := by
          intro W hW
          have := radd_any kk ls hmd tk wt (by omega) W A c (by rw [hN]; exact hL.grow hW)
          rw [hC, hKO, hRR, hN] at this
          exact this
        have hwi := fun W => rwith_any tk f v W hf
        simp only [hz0] at hwi
        have HOK := Lib.hid hok
        have HNO := Lib.hid hno
        have HADD := Lib.hid hadd
        have HWI := Lib.hid hwi
        have HTK := Lib.hid htk2
        have HLV := Lib.hid hL
        have HBX := Lib.hid hbx
        have HBEL := Lib.hid hbel
        have HN := Lib.hid hN
        have H0 := Lib.hid x0
        have H1 := Lib.hid x1
        have H2 := Lib.hid x2
        have HLH := Lib.hid hlx
        have HLD := Lib.hid hbd
        have HBDW := Lib.hid hbdw
        have HD0 := Lib.hid d0
        have HD1 := Lib.hid d1
        have HTT := Lib.hid htkk
        have HEL := Lib.hid hel1
        have hjn : j + 1 ≤ nd := by omega
        have hj30 : j + 1 ≤ 30 := by omega
        have hjI : (j : Int) < (nd : Int) := by omega
        have g1 : decide (j < nd) = true := by simp; omega
        have g2 : decide ((j : Int) < 30) = true := by simp; omega
        have bt : (tk0 : Int) + (gp : Int) % 1000 ≤ 18446744073709551615 := by omega
        clear hok hno hadd hwi htk2 hL hbx hbel hbw hN x0 x1 x2 d1 hcd hdeed hps hlv2 hC hKO hRR hx hgp hwt hin htkk hmd hls htk0 hdl hex hel hm2 hex1 hel1 hz0 hxe
        go_upto_region 8 with (fail)
        rw [show (tk0 : Int) + (gp : Int) % 1000 = (tk : Int) by have := HTT.out; omega]
        clear g1 g2 bt d0
        refine region_all (fr := ?frA) (fun i us W => match i with
            | 0 => us 0 = .agg #[.int .i64 (kk : Int), .int .i64 0, .slice A N c]
            | 1 => us 1 = .int .u64 (tk : Int)
            | 2 => us 2 = .slice (some ⟨bd, od, none⟩) nd cd
            | 3 => us 3 = .int .i64 (j : Int)
            | 4 => us 4 = .pointer (some ⟨bd, od + j * 2, none⟩)
            | 5 => us 5 = .pointer (some ⟨bd, od + j * 2 + 1, none⟩)
            | 6 => us 6 = .int .u64 (wt : Int)
            | 7 => Tp KO C R (us 7) W
            | 8 => Tp KO C R (us 8) W
            | 9 => Hp KO R (us 9) W
            | 10 => us 10 = .int .i64 C
            | 11 => Nw3 29 wr.heap.size (us 11) W
            | 12 => Yb3 29 wr.heap.size KO R (us 11) W
            | 13 => us 13 = .int .i64 C
            | _ => True) (fun j W W' => Ea 29 wr.heap.size 12 j W W') (fun W => Below wr.heap.size wr W) rfl ?hBA ?hfrA ?hlocA ?hstA ?hG0A ?hGA ?hopA ?hendA
        case hBA => kernel_rfl
        case hfrA =>
          intro us
          simp only [List.length_cons, List.length_nil, Nat.zero_add, Nat.reduceAdd, putO, dstO]
          go_simp
          rfl
        case hlocA =>
          intro i us us' W h hf
          match i with
          | 0 =>
            have e0 := h 0 (.inl rfl)
            try dsimp only at hf ⊢
            rw [e0] at hf
            exact hf
          | 1 =>
            have e1 := h 1 (.inl rfl)
            try dsimp only at hf ⊢
            rw [e1] at hf
            exact hf
          | 2 =>
            have e2 := h 2 (.inl rfl)
            try dsimp only at hf ⊢
            rw [e2] at hf
            exact hf
          | 3 =>
            have e3 := h 3 (.inl rfl)
            try dsimp only at hf ⊢
            rw [e3] at hf
            exact hf
          | 4 =>
            have e4 := h 4 (.inl rfl)
            try dsimp only at hf ⊢
            rw [e4] at hf
            exact hf
          | 5 =>
            have e5 := h 5 (.inl rfl)
            try dsimp only at hf ⊢
            rw [e5] at hf
            exact hf
          | 6 =>
            have e6 := h 6 (.inl rfl)
            try dsimp only at hf ⊢
            rw [e6] at hf
            exact hf
          | 7 =>
            have e7 := h 7 (.inl rfl)
            try dsimp only at hf ⊢
            rw [e7] at hf
            exact hf
          | 8 =>
            have e8 := h 8 (.inl rfl)
            try dsimp only at hf ⊢
            rw [e8] at hf
            exact hf
          | 9 =>
            have e9 := h 9 (.inl rfl)
            try dsimp only at hf ⊢
            rw [e9] at hf
            exact hf
          | 10 =>
            have e10 := h 10 (.inl rfl)
            try dsimp only at hf ⊢
            rw [e10] at hf
            exact hf
          | 11 =>
            have e11 := h 11 (.inl rfl)
            try dsimp only at hf ⊢
            rw [e11] at hf
            exact hf
          | 12 =>
            have e11 := h 11 (.inr (by kernel_rfl))
            try dsimp only at hf ⊢
            rw [e11] at hf
            exact hf
          | 13 =>
            have e13 := h 13 (.inl rfl)
            try dsimp only at hf ⊢
            rw [e13] at hf
            exact hf
          | n + 14 => trivial
        case hstA =>
          intro i j us W W' hne hw hi hj hE hf
          match i with
          | 0 => exact hf
          | 1 => exact hf
          | 2 => exact hf
          | 3 => exact hf
          | 4 => exact hf
          | 5 => exact hf
          | 6 => exact hf
          | 7 =>
            exact Tp.ea (by decide) (by decide) hE hf
          | 8 =>
            exact Tp.ea (by decide) (by decide) hE hf
          | 9 =>
            exact Hp.ea (by decide) (by decide) hE hf
          | 10 => exact hf
          | 11 =>
            exact Nw3.ea hE hf
          | 12 =>
            exact Yb3.ea hE (Ne.symm hne) hf
          | 13 => exact hf
          | n + 14 => trivial
        case hG0A =>
          exact (Below.refl _ wr).drew
        case hGA =>
          intro j W W' hE hg
          exact Ea.below hE hg hg.size
        case hopA =>
          intro i hi us W hg hd hq
          match i, hi with
          | 0, _ =>
            clear hd hq
            have qa := (hg.cell (p := ⟨w.heap.size, 0, none⟩) HLH.out).trans H0.out
            have qb := (hg.cell (p := ⟨w.heap.size, 1, none⟩) HLH.out).trans H1.out
            have qc := (hg.cell (p := ⟨w.heap.size, 2, none⟩) HLH.out).trans H2.out
            refine all_value rfl rfl (.agg #[.int .i64 (kk : Int), .int .i64 0, .slice A N c]) W (by go_simp) ?_ ?_
            · exact .inl (Grows.refl _)
            · rfl
          | 1, _ =>
            clear hd hq
            refine all_value rfl rfl (.int .u64 (tk : Int)) W (by go_simp) ?_ ?_
            · exact .inl (Grows.refl _)
            · rfl
          | 2, _ =>
            clear hd hq
            refine all_value rfl rfl (.slice (some ⟨bd, od, none⟩) nd cd) W (by go_simp) ?_ ?_
            · exact .inl (Grows.refl _)
            · rfl
          | 3, _ =>
            clear hd hq
            refine all_value rfl rfl (.int .i64 (j : Int)) W (by go_simp) ?_ ?_
            · exact .inl (Grows.refl _)
            · rfl
          | 4, _ =>
            have h2 : us 2 = .slice (some ⟨bd, od, none⟩) nd cd := hd 2 (by kernel_rfl)
            have h3 : us 3 = .int .i64 (j : Int) := hd 3 (by kernel_rfl)
            clear hd hq
            refine all_value rfl rfl (.pointer (some ⟨bd, od + j * 2, none⟩)) W (by go_simp) ?_ ?_
            · exact .inl (Grows.refl _)
            · rfl
          | 5, _ =>
            have h4 : us 4 = .pointer (some ⟨bd, od + j * 2, none⟩) := hd 4 (by kernel_rfl)
            clear hd hq
            refine all_value rfl rfl (.pointer (some ⟨bd, od + j * 2 + 1, none⟩)) W (by go_simp) ?_ ?_
            · exact .inl (Grows.refl _)
            · rfl
          | 6, _ =>
            have h5 : us 5 = .pointer (some ⟨bd, od + j * 2 + 1, none⟩) := hd 5 (by kernel_rfl)
            clear hd hq
            have qa := (hg.cell (p := ⟨bd, od + j * 2 + 1, none⟩) HLD.out).trans HD1.out
            refine all_value rfl rfl (.int .u64 (wt : Int)) W (by go_simp) ?_ ?_
            · exact .inl (Grows.refl _)
            · rfl
          | 7, _ =>
            have h0 : us 0 = .agg #[.int .i64 (kk : Int), .int .i64 0, .slice A N c] := hd 0 (by kernel_rfl)
            have h1 : us 1 = .int .u64 (tk : Int) := hd 1 (by kernel_rfl)
            have h6 : us 6 = .int .u64 (wt : Int) := hd 6 (by kernel_rfl)
            clear hd hq
            refine all_call rfl rfl 31 #[.agg #[.int .i64 (kk : Int), .int .i64 0, .slice A N c], .int .u64 (tk : Int), .int .u64 (wt : Int)] (by go_simp) ?_
            exact (HADD.out W hg).mono fun _ W' ⟨A', c', he, hL, hb⟩ => ⟨_, he, .inl hb, ⟨A', c', rfl, hL⟩⟩
          | 8, _ =>
            have h7 : Tp KO C R (us 7) W := hd 7 (by kernel_rfl)
            clear hd hq
            refine all_value rfl rfl (us 7) W (by go_simp) ?_ ?_
            · exact .inl (Grows.refl _)
            · exact h7
          | 9, _ =>
            have h8 : Tp KO C R (us 8) W := hd 8 (by kernel_rfl)
            clear hd hq
            obtain ⟨A', c', e8, hL⟩ := h8
            refine all_value rfl rfl (.agg #[.int .i64 KO, .int .i64 0, .slice A' R.length c']) W (by go_simp) ?_ ?_
            · exact .inl (Grows.refl _)
            · exact ⟨A', c', rfl, hL⟩
          | 10, _ =>
            have h8 : Tp KO C R (us 8) W := hd 8 (by kernel_rfl)
            clear hd hq
            obtain ⟨A', c', e8, hL⟩ := h8
            refine all_value rfl rfl (.int .i64 C) W (by go_simp) ?_ ?_
            · exact .inl (Grows.refl _)
            · rfl
          | 11, _ =>
            clear hd hq
            refine all_value rfl rfl (.pointer (some ⟨W.heap.size, 0, none⟩)) (W.alloc (.cells #[.int .i64 0, .int .i64 0, .slice none 0 0] 29)) (by go_simp) ?_ ?_
            · exact .inl (Grows.alloc _ _)
            · exact ⟨W.heap.size, _, _, _, rfl, hg.size, World.alloc_heap_new _ _⟩
          | 12, _ =>
            have h11 : Nw3 29 wr.heap.size (us 11) W := hd 11 (by kernel_rfl)
            have h9 : Hp KO R (us 9) W := hd 9 (by kernel_rfl)
            clear hd hq
            obtain ⟨A', c', e9, hL⟩ := h9
            obtain ⟨p, x0, x1, x2, e11, hp, hblk⟩ := h11
            obtain ⟨q0, q1, q2⟩ := box3 hblk
            have f0 : ∀ i, W.frozen? ⟨p, i, none⟩ = false := fun i => by simp [World.frozen?, hblk]
            have HBK := Lib.hid hblk
            have hlp := lt_of hblk
            clear hblk
            refine all_skip rfl rfl (((W.setCell ⟨p, 0, none⟩ (.int .i64 KO)).setCell ⟨p, 1, none⟩ (.int .i64 0)).setCell ⟨p, 2, none⟩ (.slice A' R.length c')) (by go_simp) ?_ ?_
            · exact .inr ⟨rfl, st3_set hp HBK.out _ _ _⟩
            · exact ⟨p, A', c', e11, hp, set3 HBK.out _ _ _, levs_set3 (by decide) (by decide) HBK.out _ _ _ hL⟩
          | 13, _ =>
            have h10 : us 10 = .int .i64 C := hd 10 (by kernel_rfl)
            clear hd hq
            refine all_value rfl rfl (.int .i64 C) W (by go_simp) ?_ ?_
            · exact .inl (Grows.refl _)
            · rfl
          | n + 14, h => exact absurd h (by simp)
        case hendA =>
          intro us W hg hf
          have h12 : Yb3 29 wr.heap.size KO R (us 11) W := hf 12 (by simp)
          have h13 : us 13 = .int .i64 C := hf 13 (by simp)
          clear hf
          obtain ⟨p, Ap, cp, e11, hp, hblk, hLp⟩ := h12
          rw [h13, e11]
          have hbA := (hg.block w.heap.size HLH.out).trans HBX.out
          obtain ⟨y0, y1, y2⟩ := box3 hbA
          obtain ⟨z0', z1', z2'⟩ := box3 hblk
          have fA : ∀ i, W.frozen? ⟨w.heap.size, i, none⟩ = false := fun i => by simp [World.frozen?, hbA]
          have lA := lt_of hbA
          have lp := lt_of hblk
          have hpA : p ≠ w.heap.size := by have := HLH.out; omega
          have d1 := (hg.cell (p := ⟨bd, od + j * 2 + 1, none⟩) HLD.out).trans HD1.out
          have lD : bd < W.heap.size := Nat.lt_of_lt_of_le HLD.out hg.size
          have nD : bd ≠ w.heap.size := Nat.ne_of_lt HBDW.out
          have HBA := Lib.hid hbA
          have HLP := Lib.hid hLp
          have HGW := Lib.hid (HBEL.out.trans (hg.mono (by have := HLH.out; omega)))
          have HLW := Lib.hid (HLV.out.grow hg)
          clear hbA hblk hLp hg e11 h13
          by_cases hc : C = 0
          · have hR := HOK.out hc
            have d : (C == 0) = true := by simpa using hc
            have hel := HEL.out
            cases z0 with
            | true =>
              rw [if_pos rfl] at hR
              have bd' : (ex : Int) + (wt : Int) ≤ 18446744073709551615 := by have := hR.2; omega
              have HR1 := Lib.hid hR
              clear hR hc hel
              go_wp2_with (go_at_call 70; (with_reducible refine (HWI.out _).mono ?_); rintro e w9 ⟨rfl, rfl⟩)
              refine ⟨⟨j + 1, Ap, cp, by go_num, by rw [HTK.out], by rw [HR1.out.2]; go_num, hj30, hjn, ?_, ?_, ?_⟩, by simp [intOf]; omega⟩
              · rw [HR1.out.1.1, HR1.out.1.2] at *
                exact set3 HBA.out _ _ _
              · rw [← HR1.out.1.2]
                exact levs_set3 (by decide) (by decide) HBA.out _ _ _ HLP.out
              · exact below3 HGW.out (Nat.le_refl _) _ _ _
            | false =>
              rw [if_neg (by simp)] at hR
              have HR1 := Lib.hid hR
              clear hR hc hel
              go_wp2_with (go_at_call 70; (with_reducible refine (HWI.out _).mono ?_); rintro e w9 ⟨rfl, rfl⟩)
              refine ⟨⟨j + 1, Ap, cp, by go_num, by rw [HTK.out], by rw [HR1.out.2], hj30, hjn, ?_, ?_, ?_⟩, by simp [intOf]; omega⟩
              · rw [HR1.out.1.1, HR1.out.1.2] at *
                exact set3 HBA.out _ _ _
              · rw [← HR1.out.1.2]
                exact levs_set3 (by decide) (by decide) HBA.out _ _ _ HLP.out
              · exact below3 HGW.out (Nat.le_refl _) _ _ _
          · have hR := HNO.out hc
            have HR1 := Lib.hid hR
            have d : (C == 0) = false := by simpa using hc
            clear hR hc
            go_wp2
            refine ⟨⟨j + 1, A, c, by go_num, by rw [HTK.out], by rw [HR1.out.2], hj30, hjn, ?_, ?_, HGW.out⟩, by simp [intOf]; omega⟩
            · rw [HR1.out.1, HN.out]
              exact HBA.out
            · rw [HR1.out.1, HN.out]
              exact HLW.out
      · have hjd : j = doneN ds := by unfold doneN; omega
        have HXE := Lib.hid hxe
        have HJJ := Lib.hid hjd
        have HBW := Lib.hid hbw
        clear hxe hjd hbw hL hbx hbel hN hls htk0 htk hmd hdl hex hel hm2
        by_cases h1 : j < nd
        · have g1 : decide (j < nd) = true := by simpa using h1
          have g2 : decide ((j : Int) < 30) = false := by simp; omega
          clear hlt
          go_wp2
          go_ret
          exact ⟨by rw [← HJJ.out, HXE.out]; rfl, HBW.out⟩
        · have g1 : decide (j < nd) = false := by simpa using h1
          clear hlt
          go_wp2
          go_ret
          exact ⟨by rw [← HJJ.out, HXE.out]; rfl, HBW.out⟩

end Go.Proofs.Ytpdhkpgnajfobaa
end
