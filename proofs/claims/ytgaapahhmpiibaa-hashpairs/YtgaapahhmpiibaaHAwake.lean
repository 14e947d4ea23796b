/- What the laws of stage 4 call first: awake. -/
import Derived.Test.YtgaapahhmpiibaaHCols
import Derived.Test.YtgaapahhmpiibaaHRef
namespace Go.Proofs.Ytgaapahhmpiibaa
open Go.RowKit Go.Proofs.Wm

theorem seeds_new (W : World) (t : TypeId) (a b c d : Nat) (ha : a < 18446744073709551616) (hb : b < 18446744073709551616) (hc : c < 18446744073709551616) (hd : d < 18446744073709551616) :
    Seeds (W.alloc (.cells #[.int .u64 a, .int .u64 b, .int .u64 c, .int .u64 d] t)) (W.alloc (.cells #[.int .u64 a, .int .u64 b, .int .u64 c, .int .u64 d] t)).heap.size (some ⟨W.heap.size, 0, none⟩) 2 (fun j => if j = 0 then a else c) (fun j => if j = 0 then b else d) := by
  refine .inr ⟨W.heap.size, 0, rfl, by simp, fun j hj => ?_⟩
  rcases j with _ | _ | j
  · exact ⟨by rw [World.cell?_alloc_at _ _ _ _ rfl]; rfl, by rw [World.cell?_alloc_at _ _ _ _ rfl]; rfl, ha, hb⟩
  · exact ⟨by rw [World.cell?_alloc_at _ _ _ _ rfl]; rfl, by rw [World.cell?_alloc_at _ _ _ _ rfl]; rfl, hc, hd⟩
  · omega

theorem cells_two {W : World} {b : Nat} {f : Nat → Value} {t : TypeId} (h : W.heap[b]? = some (.cells ((List.range 2).map f).toArray t)) : W.cell? ⟨b, 0, none⟩ = some (f 0) ∧ W.cell? ⟨b, 1, none⟩ = some (f 1) := by
  constructor <;> simp [World.cell?, h]

theorem col_awake : col 3 4 5 10 = 9 := by kernel_rfl
theorem may_awake : may 3 4 = true ∧ may 0 4 = false ∧ keyB 5 = true ∧ keyB 2305843009213693951 = false := ⟨by kernel_rfl, by kernel_rfl, by kernel_rfl, by kernel_rfl⟩

theorem awake_columns (W : World) (B : Nat) (hB : B = W.heap.size) :
    Calls Try.prog 15 #[.slice (some ⟨B, 0, none⟩) 2 2, .int .u64 5, .int .i64 10] (W.alloc (.cells #[.int .u64 3, .int .u64 4, .int .u64 1, .int .u64 0] 24)) fun e w' =>
      ∃ rb, e = .returned (.slice (some ⟨rb, 0, none⟩) 2 2) ∧ w'.cell? ⟨rb, 0, none⟩ = some (.int .i64 9) ∧ w'.cell? ⟨rb, 1, none⟩ = some (.int .i64 5) ∧ rb < w'.heap.size ∧ Below W.heap.size W w' := by
  subst hB
  refine (columns_any _ 2 2 _ _ 5 (by decide) 10 (by decide) (by decide) (by decide) _ (seeds_new W 24 3 4 1 0 (by decide) (by decide) (by decide) (by decide))).mono ?_
  rintro e w' ⟨he, hb, hB⟩
  obtain ⟨h0, h1⟩ := cells_two hb
  exact ⟨_, he, h0, h1, (Array.getElem?_eq_some_iff.1 hb).1, (below_row W _).trans (hB.mono (by simp))⟩

set_option maxRecDepth 100000 in
set_option maxHeartbeats 1000000 in
theorem awake_any (w : World) : Calls Try.prog 8 #[] w fun e w' => e = .returned (.bool true) ∧ Below w.heap.size w w' := by
  have h2 := column_any 3 4 5 (by decide) (by decide) (by decide) 10 (by decide) (by decide)
  have h3 := may_any 3 4 (by decide) (by decide)
  have h4 := may_any 0 4 (by decide) (by decide)
  have h5 := key_any 5
  have h6 := key_any 2305843009213693951
  rw [col_awake] at h2
  rw [may_awake.1] at h3
  rw [may_awake.2.1] at h4
  rw [may_awake.2.2.1] at h5
  rw [may_awake.2.2.2] at h6
  simp only [Int.cast_ofNat_Int] at h2 h3 h4 h5 h6
  have H2 := Lib.hid h2
  have H3 := Lib.hid h3
  have H4 := Lib.hid h4
  have H5 := Lib.hid h5
  have H6 := Lib.hid h6
  clear h2 h3 h4 h5 h6
  have hB := below_row w (.cells #[.int .u64 3, .int .u64 4] 24)
  go_enter Try.func8, Try.ntmps8
  go_wp2_with (first
    | (go_at_call 15; (with_reducible refine (awake_columns _ _ (by simp)).mono ?_); rintro e w1 ⟨rb, rfl, c0, c1, hlt, hn⟩; obtain ⟨s0, s1⟩ := box_cells hn; have hs := box_lt hn; replace hB := hB.trans (hn.mono hB.size); clear hn)
    | (go_at_call 9; (with_reducible refine (H2.out _).mono ?_); rintro e w2 ⟨rfl, hn⟩; replace c0 := (hn.cell (p := ⟨rb, 0, none⟩) hlt).trans c0; replace c1 := (hn.cell (p := ⟨rb, 1, none⟩) hlt).trans c1; replace s0 := (hn.cell (p := ⟨w.heap.size, 0, none⟩) hs).trans s0; replace s1 := (hn.cell (p := ⟨w.heap.size, 1, none⟩) hs).trans s1; replace hB := hB.trans (hn.mono hB.size); clear hn)
    | (go_at_call 11; (with_reducible refine (H3.out _).mono ?_); rintro e w3 ⟨rfl, hn⟩; replace hB := hB.trans (hn.mono hB.size); clear hn)
    | (go_at_call 11; (with_reducible refine (H4.out _).mono ?_); rintro e w4 ⟨rfl, hn⟩; replace hB := hB.trans (hn.mono hB.size); clear hn)
    | (go_at_call 13; (with_reducible refine (H5.out _).mono ?_); rintro e w5 ⟨rfl, rfl⟩)
    | (go_at_call 13; (with_reducible refine (H6.out _).mono ?_); rintro e w6 ⟨rfl, rfl⟩))
  go_ret
  exact ⟨rfl, hB⟩

end Go.Proofs.Ytgaapahhmpiibaa
