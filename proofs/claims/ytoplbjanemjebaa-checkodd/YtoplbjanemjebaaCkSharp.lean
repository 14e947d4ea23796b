/- The contracts of check.sharp, of its function, and of slices.IndexFunc and ContainsFunc as it calls them. -/
import Derived.Test.YtoplbjanemjebaaCkA
namespace Go.Proofs.Ytoplbjanemjebaa
open Go.RowKit Go.Shelf Go.Proofs.Rw Go.Proofs.Lh

theorem sharp1_any (t0 t1 : Nat) (w : World) :
    Calls Try.prog 47 #[.agg #[.int .u64 (t0 : Int), .int .u64 (t1 : Int)]] w fun e w' => e = .returned (.bool (t0 != t1)) ∧ w' = w.alloc (.cells #[.int .u64 (t0 : Int), .int .u64 (t1 : Int)] 44) := by
  go_enter Try.func47, Try.ntmps47
  go_wp2
  go_ret
  refine ⟨ret_b ?_, rfl⟩
  rw [Bool.eq_iff_iff]
  simp
  omega

set_option maxHeartbeats 1000000 in
theorem index_any (xs : List Sp) (hl : xs.length ≤ 1000000) (w : World) (A : Option Addr) (c : Nat) (h : Lies spL w w.heap.size (.slice A xs.length c) xs) :
    Calls Try.prog 53 #[.slice A xs.length c, .func (.func 47) #[] #[]] w fun e w' => ∃ r : Int, e = .returned (.int .i64 r) ∧ (decide (0 ≤ r) = !(xs.all fun x => x.1 == x.2)) ∧ -1 ≤ r ∧ r ≤ 1000000 ∧ Below w.heap.size w w' := by
  obtain ⟨N, hN⟩ : ∃ N, xs.length = N := ⟨_, rfl⟩
  have HL := Lib.hid h
  rw [hN] at HL hl ⊢
  have HN := Lib.hid hN
  clear h hN
  go_enter Try.func53, Try.ntmps53
  go_wp2
  go_loopw [8] (fun p wr => ∃ j : Nat, p = .int .i64 (j : Int) ∧ j ≤ N ∧ Hid (∀ i (hi : i < xs.length), i < j → xs[i].1 = xs[i].2) ∧ Hid (Below w.heap.size w wr)) (fun p _ => N - (intOf p).toNat)
  case atStart => exact ⟨0, rfl, Nat.zero_le _, Lib.hid fun i _ hi => absurd hi (by omega), Lib.hid (Below.refl _ _)⟩
  case round =>
    obtain ⟨j, rfl, hj, HALL, HB⟩ := hrel
    by_cases hlt : j < N
    · have hjl : j < xs.length := by rw [HN.out]; exact hlt
      obtain ⟨b2, off2, rfl, hb2, -, hc2⟩ := sp_at (HL.out.below HB.out) (by omega)
      obtain ⟨e0, e1⟩ := hc2 j hjl
      obtain ⟨y, hy⟩ : ∃ y, xs[j] = y := ⟨_, rfl⟩
      rw [hy] at e0 e1
      obtain ⟨t0, t1⟩ := y
      dsimp only at e0 e1
      have HY := Lib.hid hy
      have hbb : b2 < wr.heap.size := Nat.lt_of_lt_of_le hb2 HB.out.size
      have hs := sharp1_any t0 t1 wr
      obtain ⟨q, hq⟩ : ∃ q, (t0 != t1) = q := ⟨_, rfl⟩
      rw [hq] at hs
      have HS := Lib.hid hs
      have HQ := Lib.hid hq
      clear hs hq hy hc2
      cases q with
      | true =>
        go_wp2_with (go_at_call 47; refine HS.out.mono ?_; rintro e w9 ⟨rfl, rfl⟩)
        go_ret
        refine ⟨_, rfl, ?_, by omega, by omega, HB.out.alloc HB.out.size _⟩
        rw [decide_eq_true (by omega), eq_comm, Bool.not_eq_true', List.all_eq_false]
        refine ⟨xs[j], List.getElem_mem hjl, ?_⟩
        rw [HY.out]
        have := HQ.out
        simpa using this
      | false =>
        go_wp2_with (go_at_call 47; refine HS.out.mono ?_; rintro e w9 ⟨rfl, rfl⟩)
        refine ⟨⟨j + 1, by go_num, hlt, Lib.hid fun i hi hij => ?_, Lib.hid (HB.out.alloc HB.out.size _)⟩, by simp [intOf]; omega⟩
        rcases Nat.lt_or_ge i j with h' | h'
        · exact HALL.out i hi h'
        · have e : i = j := by omega
          subst e
          rw [HY.out]
          have := HQ.out
          simpa using this
    · have e : j = N := by omega
      subst e
      go_wp2
      go_ret
      refine ⟨_, rfl, ?_, by omega, by omega, HB.out⟩
      rw [eq_comm]
      simp
      intro a b hab
      obtain ⟨i, hi, e⟩ := List.getElem_of_mem hab
      have := HALL.out i hi (by rw [← HN.out]; exact hi)
      rw [e] at this
      exact this

theorem contains_any (xs : List Sp) (hl : xs.length ≤ 1000000) (w : World) (A : Option Addr) (c : Nat) (h : Lies spL w w.heap.size (.slice A xs.length c) xs) :
    Calls Try.prog 46 #[.slice A xs.length c, .func (.func 47) #[] #[]] w fun e w' => e = .returned (.bool (!(xs.all fun x => x.1 == x.2))) ∧ Below w.heap.size w w' := by
  have hi := index_any xs hl w A c h
  have HI := Lib.hid hi
  clear hi h
  go_enter Try.func46, Try.ntmps46
  go_wp2_with (go_at_call 53; refine HI.out.mono ?_; rintro e w1 ⟨r, rfl, hr, r0, r1, hb1⟩; have HB1 := Lib.hid hb1; have HR := Lib.hid hr; clear hb1 hr)
  go_ret
  exact ⟨ret_b HR.out, HB1.out⟩

set_option maxHeartbeats 1000000 in
theorem sharp_any (k g : Int) (ls : Lv) (hl : ls.length ≤ 1000000) (h0 : (lev ls 0).length ≤ 1000000) (w : World) (A : Option Addr) (c : Nat) (h : Reads w w.heap.size (.slice A ls.length c) ls) :
    Calls Try.prog 40 #[hv k g (.slice A ls.length c)] w fun e w' => e = .returned (.bool (flatB ls)) ∧ Below w.heap.size w w' := by
  rcases Nat.eq_zero_or_pos ls.length with hz | hz
  · have hf : flatB ls = true := by unfold flatB; rw [lev_ge (by omega)]; rfl
    rw [hf, hz]
    clear h hf
    go_enter Try.func40, Try.ntmps40
    go_wp2
    go_ret
    exact ⟨rfl, (Below.refl _ w).alloc (Nat.le_refl _) _⟩
  · have hb0 : Below w.heap.size w (w.alloc (.cells #[.int .i64 k, .int .i64 g, .slice A ls.length c] 32)) := (Below.refl _ w).alloc (Nat.le_refl _) _
    obtain ⟨b, off, rfl, hb, -, hc⟩ := h.at hz
    obtain ⟨Ai, ci, q0, -, -, hLi⟩ := hc 0 hz
    rw [← lev_lt hz] at q0 hLi
    rw [Nat.add_zero] at q0
    have hct := contains_any (lev ls 0) h0 _ Ai ci (hLi.grow hb0)
    have hf : (!(!(lev ls 0).all fun x => x.1 == x.2)) = flatB ls := by rw [Bool.not_not]; rfl
    rw [← hf]
    have hne : ((ls.length : Int) == 0) = false := by rw [beq_eq_false_iff_ne]; omega
    have hzi : (0 : Int) < (ls.length : Int) := by omega
    generalize (!(lev ls 0).all fun x => x.1 == x.2) = q at *
    have HC := Lib.hid hct
    have HB0 := Lib.hid hb0
    clear hct hb0 hf h hc hLi
    go_enter Try.func40, Try.ntmps40
    go_wp2_with (go_at_call 46; refine HC.out.mono ?_; rintro e w1 ⟨rfl, hb1⟩; have HB1 := Lib.hid hb1; clear hb1)
    go_ret
    exact ⟨rfl, thn HB0.out HB1.out⟩

end Go.Proofs.Ytoplbjanemjebaa
