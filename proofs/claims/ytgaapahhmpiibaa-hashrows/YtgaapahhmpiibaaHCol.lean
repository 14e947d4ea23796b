/- The contract of hash.Column. -/
import Derived.Test.YtgaapahhmpiibaaHash
namespace Go.Proofs.Ytgaapahhmpiibaa
open Go.RowKit Go.Proofs.Wm Go.Proofs.Rf

theorem lt64 {x : Nat} (h : x < pr) : x < 18446744073709551616 := Nat.lt_trans h pr_lt
theorem box_cells {w wn : World} {a b : Value} {t : TypeId} (h : Below (w.alloc (.cells #[a, b] t)).heap.size (w.alloc (.cells #[a, b] t)) wn) : wn.cell? ⟨w.heap.size, 0, none⟩ = some a ∧ wn.cell? ⟨w.heap.size, 1, none⟩ = some b := by
  constructor
  · rw [h.cell (p := ⟨w.heap.size, 0, none⟩) (by simp), World.cell?_alloc_at _ _ _ _ rfl]; rfl
  · rw [h.cell (p := ⟨w.heap.size, 1, none⟩) (by simp), World.cell?_alloc_at _ _ _ _ rfl]; rfl
theorem box_lt {w wn : World} {a b : Value} {t : TypeId} (h : Below (w.alloc (.cells #[a, b] t)).heap.size (w.alloc (.cells #[a, b] t)) wn) : w.heap.size < wn.heap.size := by
  have := h.size
  simp at this
  omega

set_option maxRecDepth 100000 in
set_option maxHeartbeats 1000000 in
theorem column_any (a b x : Nat) (ha : a < 18446744073709551616) (hb : b < 18446744073709551616) (hx : x < 18446744073709551616) (k : Int) (k0 : -9223372036854775808 ≤ k) (k1 : k ≤ 9223372036854775807) (w : World) :
    Calls Try.prog 9 #[.agg #[.int .u64 a, .int .u64 b], .int .u64 x, .int .i64 k] w fun e w' => e = .returned (.int .i64 (col a b x k)) ∧ Below w.heap.size w w' := by
  obtain ⟨m, hm⟩ : ∃ m, may a b = m := ⟨_, rfl⟩
  obtain ⟨y, hy⟩ : ∃ y, keyB x = y := ⟨_, rfl⟩
  have m1 := fun W => may_any a b ha hb W
  have m2 := fun W => key_any x W
  have m3 := fun W => mulMod_any a x ha hx W
  have m4 := fun W => addMod_any (mulM a x) b (lt64 (mulM_lt _ _)) hb W
  rw [hm] at m1
  rw [hy] at m2
  have hc : col a b x k = if k < 1 then 0 else if m = false then 0 else if y = false then 0 else ((addM (mulM a x) b % k.toNat : Nat) : Int) := by unfold col; rw [hm, hy]
  have hq := addM_lt (mulM a x) b
  obtain ⟨p, hp⟩ : ∃ p, mulM a x = p := ⟨_, rfl⟩
  rw [hp] at m3 m4 hc hq
  obtain ⟨q, hqe⟩ : ∃ q, addM p b = q := ⟨_, rfl⟩
  rw [hqe] at m4 hc hq
  unfold pr at hq
  have M1 := Lib.hid m1
  have M2 := Lib.hid m2
  have M3 := Lib.hid m3
  have M4 := Lib.hid m4
  rw [hc]
  clear m1 m2 m3 m4 hm hy hp hqe hc
  have hB := below_row w (.cells #[.int .u64 a, .int .u64 b] 24)
  by_cases h1 : k < 1
  · rw [if_pos h1]
    go_enter Try.func9, Try.ntmps9
    go_wp2
    go_ret
    exact ⟨rfl, below_row _ _⟩
  · rw [if_neg h1]
    cases m
    · rw [if_pos rfl]
      go_enter Try.func9, Try.ntmps9
      go_wp2_with (first
        | (go_at_call 11; refine (M1.out _).mono ?_; rintro e wn ⟨rfl, hn⟩; obtain ⟨c0, c1⟩ := box_cells hn; have hlt := box_lt hn; replace hB := hB.trans (hn.mono hB.size); clear hn)
        | (go_at_call 13; refine (M2.out _).mono ?_; rintro e wm ⟨rfl, rfl⟩))
      go_ret
      exact ⟨rfl, hB⟩
    · rw [if_neg (by decide)]
      cases y
      · rw [if_pos rfl]
        go_enter Try.func9, Try.ntmps9
        go_wp2_with (first
        | (go_at_call 11; refine (M1.out _).mono ?_; rintro e wn ⟨rfl, hn⟩; obtain ⟨c0, c1⟩ := box_cells hn; have hlt := box_lt hn; replace hB := hB.trans (hn.mono hB.size); clear hn)
        | (go_at_call 13; refine (M2.out _).mono ?_; rintro e wm ⟨rfl, rfl⟩))
        go_ret
        exact ⟨rfl, hB⟩
      · rw [if_neg (by decide)]
        have hv : (q : Int) % k = ((q % k.toNat : Nat) : Int) := by
          rw [Int.natCast_emod, Int.toNat_of_nonneg (by omega)]
        have hw : -9223372036854775808 ≤ (q : Int) % k ∧ (q : Int) % k ≤ 9223372036854775807 := by
          have h2 := Int.emod_nonneg (q : Int) (show k ≠ 0 by omega)
          have h3 := Int.emod_lt_of_pos (q : Int) (show 0 < k by omega)
          generalize (q : Int) % k = z at *
          omega
        have HV := Lib.hid hv
        have HW := Lib.hid hw
        clear hv hw
        go_enter Try.func9, Try.ntmps9
        go_upto_region 3 with (first
        | (go_at_call 11; refine (M1.out _).mono ?_; rintro e wn ⟨rfl, hn⟩; obtain ⟨c0, c1⟩ := box_cells hn; have hlt := box_lt hn; replace hB := hB.trans (hn.mono hB.size); clear hn)
        | (go_at_call 13; refine (M2.out _).mono ?_; rintro e wm ⟨rfl, rfl⟩))
        have HLT := Lib.hid hlt
        refine region_all (fr := ?frA) (fun i us W => match i with
            | 0 => us 0 = .pointer (some ⟨w.heap.size, 0, none⟩)
            | 1 => us 1 = .int .u64 a
            | 2 => us 2 = .int .u64 x
            | 3 => us 3 = .int .u64 p
            | 4 => us 4 = .pointer (some ⟨w.heap.size, 1, none⟩)
            | 5 => us 5 = .int .u64 b
            | 6 => us 6 = .int .u64 q
            | 7 => us 7 = .int .u64 q
            | _ => True) (fun _ W W' => Grows W W') (fun W => Below wn.heap.size wn W) rfl ?hBA ?hfrA ?hlocA ?hstA ?hG0A ?hGA ?hopA ?hendA
        case hBA => kernel_rfl
        case hfrA =>
          intro us
          simp only [List.length_cons, List.length_nil, Nat.zero_add, Nat.reduceAdd, putO, dstO]
          go_simp
          rfl
        case hlocA =>
          intro i us us' W h hf
          match i with
          | 0 =>
            have e0 := h 0 (.inl rfl)
            try dsimp only at hf ⊢
            rw [e0] at hf
            exact hf
          | 1 =>
            have e1 := h 1 (.inl rfl)
            try dsimp only at hf ⊢
            rw [e1] at hf
            exact hf
          | 2 =>
            have e2 := h 2 (.inl rfl)
            try dsimp only at hf ⊢
            rw [e2] at hf
            exact hf
          | 3 =>
            have e3 := h 3 (.inl rfl)
            try dsimp only at hf ⊢
            rw [e3] at hf
            exact hf
          | 4 =>
            have e4 := h 4 (.inl rfl)
            try dsimp only at hf ⊢
            rw [e4] at hf
            exact hf
          | 5 =>
            have e5 := h 5 (.inl rfl)
            try dsimp only at hf ⊢
            rw [e5] at hf
            exact hf
          | 6 =>
            have e6 := h 6 (.inl rfl)
            try dsimp only at hf ⊢
            rw [e6] at hf
            exact hf
          | 7 =>
            have e7 := h 7 (.inl rfl)
            try dsimp only at hf ⊢
            rw [e7] at hf
            exact hf
          | n + 8 => trivial
        case hstA =>
          intro i j us W W' hne hw hi hj hE hf
          match i with
          | 0 => exact hf
          | 1 => exact hf
          | 2 => exact hf
          | 3 => exact hf
          | 4 => exact hf
          | 5 => exact hf
          | 6 => exact hf
          | 7 => exact hf
          | n + 8 => trivial
        case hG0A =>
          exact (Below.refl _ wn).drew
        case hGA =>
          intro j W W' hE hg
          exact hg.trans (hE.mono hg.size)
        case hopA =>
          intro i hi us W hg hd hq
          match i, hi with
          | 0, _ =>
            clear hd hq
            refine all_value rfl rfl (.pointer (some ⟨w.heap.size, 0, none⟩)) W (by go_simp) ?_ ?_
            · exact Grows.refl _
            · rfl
          | 1, _ =>
            have h0 : us 0 = .pointer (some ⟨w.heap.size, 0, none⟩) := hd 0 (by kernel_rfl)
            clear hd hq
            have c := (hg.cell (p := ⟨w.heap.size, 0, none⟩) HLT.out).trans c0
            refine all_value rfl rfl (.int .u64 a) W (by go_simp) ?_ ?_
            · exact Grows.refl _
            · rfl
          | 2, _ =>
            clear hd hq
            refine all_value rfl rfl (.int .u64 x) W (by go_simp) ?_ ?_
            · exact Grows.refl _
            · rfl
          | 3, _ =>
            have h1 : us 1 = .int .u64 a := hd 1 (by kernel_rfl)
            have h2 : us 2 = .int .u64 x := hd 2 (by kernel_rfl)
            clear hd hq
            refine all_call rfl rfl 18 #[.int .u64 a, .int .u64 x] (by go_simp) ?_
            exact (M3.out _).mono fun _ W' ⟨he, hb⟩ => ⟨_, he, hb, rfl⟩
          | 4, _ =>
            clear hd hq
            refine all_value rfl rfl (.pointer (some ⟨w.heap.size, 1, none⟩)) W (by go_simp) ?_ ?_
            · exact Grows.refl _
            · rfl
          | 5, _ =>
            have h4 : us 4 = .pointer (some ⟨w.heap.size, 1, none⟩) := hd 4 (by kernel_rfl)
            clear hd hq
            have c := (hg.cell (p := ⟨w.heap.size, 1, none⟩) HLT.out).trans c1
            refine all_value rfl rfl (.int .u64 b) W (by go_simp) ?_ ?_
            · exact Grows.refl _
            · rfl
          | 6, _ =>
            have h3 : us 3 = .int .u64 p := hd 3 (by kernel_rfl)
            have h5 : us 5 = .int .u64 b := hd 5 (by kernel_rfl)
            clear hd hq
            refine all_call rfl rfl 17 #[.int .u64 p, .int .u64 b] (by go_simp) ?_
            exact (M4.out _).mono fun _ W' ⟨he, hb⟩ => ⟨_, he, hb, rfl⟩
          | 7, _ =>
            have h6 : us 6 = .int .u64 q := hd 6 (by kernel_rfl)
            clear hd hq
            refine all_value rfl rfl (.int .u64 q) W (by go_simp) ?_ ?_
            · exact Grows.refl _
            · rfl
          | n + 8, h => exact absurd h (by simp)
        case hendA =>
          intro us W hg hf
          have h7 : us 7 = .int .u64 q := hf 7 (by simp)
          clear hf
          rw [h7]
          have HG := Lib.hid (hB.trans (hg.mono hB.size))
          clear hg h7 hB
          go_wp2
          go_ret
          exact ⟨congrArg (fun z => Ending.returned (.int .i64 z)) ((IntWalk.wrap64_in _ HW.out).trans HV.out), HG.out⟩

end Go.Proofs.Ytgaapahhmpiibaa
