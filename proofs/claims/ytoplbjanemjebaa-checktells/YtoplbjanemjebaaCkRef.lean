/- The contracts of skylightref09.shaped, turned and Hist. -/
import Derived.Test.YtoplbjanemjebaaCkHist
namespace Go.Proofs.Ytoplbjanemjebaa
open Go.RowKit Go.Shelf Go.Proofs.Rw Go.Proofs.Lh

set_option maxHeartbeats 2000000 in
theorem shaped_any (k : Nat) (hk : 2 ≤ k) (hk1 : k ≤ 1024) (g : Int) (ls : Lv) (hl : ls.length ≤ 1000000) (w : World) (A : Option Addr) (c : Nat) (h : Reads w w.heap.size (.slice A ls.length c) ls) :
    Calls Try.prog 25 #[hv (k : Int) g (.slice A ls.length c)] w fun e w' => e = .returned (.bool (shapedB k ls)) ∧ Below w.heap.size w w' := by
  have hno0 : filledB k ls = false → shapedB k ls = false := fun h => by
    have h' : (List.range ls.length).all (levOk k ls) = false := h
    unfold shapedB
    rw [h', Bool.false_and]
  have hyes0 : filledB k ls = true → shapedB k ls = decide (ls.length ≤ 52) := fun h => by
    have h' : (List.range ls.length).all (levOk k ls) = true := h
    unfold shapedB
    rw [h', Bool.true_and]
  have NO := Lib.hid hno0
  have YES := Lib.hid hyes0
  clear hno0 hyes0
  obtain ⟨N, hN⟩ : ∃ N, ls.length = N := ⟨_, rfl⟩
  have HL := Lib.hid h
  rw [hN] at HL hl ⊢
  have HN := Lib.hid hN
  have hkc : (k : Int) ≤ 9223372036854775806 := by omega
  clear h hN
  have HE := Lib.hid (show Below w.heap.size w (w.alloc (.cells #[.int .i64 (k : Int), .int .i64 g, .slice A N c] 29)) from (Below.refl _ w).alloc (Nat.le_refl _) _)
  go_enter Try.func25, Try.ntmps25
  go_wp2
  go_loop [3] (fun i => ∃ j : Nat, i = .int .i64 (j : Int) ∧ j ≤ N ∧ Hid (∀ i, i < j → levOk k ls i = true)) (fun i => N - (intOf i).toNat)
  case atStart => exact ⟨0, rfl, Nat.zero_le _, Lib.hid fun i hi => absurd hi (by omega)⟩
  case round =>
    obtain ⟨j, rfl, hj, HALL⟩ := hrel
    by_cases hlt : j < N
    · have hjl : j < ls.length := by rw [HN.out]; exact hlt
      obtain ⟨b, off, rfl, hb, -, hc⟩ := HL.out.at (by omega)
      obtain ⟨Ai, ci, q0, -, -, -⟩ := hc j hjl
      have hm1 := fun W => rLeast_any (k : Int) (j : Int) hkc W
      have hm2 := fun W => rMost_any (k : Int) (j : Int) hkc W
      have hrm2 := rm_two k j (by omega)
      have hrm3 : rm k j ≤ 1025 := by unfold rm; split <;> omega
      have hok : levOk k ls j = decide (1 ≤ ls[j].length ∧ ls[j].length ≤ rm k j ∧ (j + 1 = ls.length ∨ rm k j - 1 ≤ ls[j].length)) := by unfold levOk; rw [lev_lt hjl]
      rw [least_rm] at hm1 hm2
      rw [HN.out] at hok
      have hno := fun h => filled_no (k := k) hjl h
      generalize ls[j].length = m at *
      generalize rm k j = r at *
      have hq2 : ((r : Int) - 1) + 1 = (r : Int) := by omega
      simp only [hq2] at hm2
      obtain ⟨r', hr'⟩ : ∃ r' : Nat, (r : Int) - 1 = (r' : Int) := ⟨r - 1, by omega⟩
      simp only [hr'] at hm1
      have M1 := Lib.hid hm1
      have M2 := Lib.hid hm2
      have HOK := Lib.hid hok
      have HNO := Lib.hid hno
      clear hc hm1 hm2 hq2 hok hno hjl
      have next : levOk k ls j = true → ∀ i, i < j + 1 → levOk k ls i = true := fun h i hi => by
        rcases Nat.lt_or_ge i j with h' | h'
        · exact HALL.out i h'
        · rw [show i = j by omega]; exact h
      have NEXT := Lib.hid next
      clear next
      by_cases a1 : m < 1
      · have d1 : decide ((m : Int) < 1) = true := by rw [decide_eq_true_iff]; omega
        by_cases hl1 : j + 1 = N
        · have ht : ((j : Int) == (N : Int) - 1) = true := by rw [beq_iff_eq]; omega
          go_wp2_with (first
              | (go_at_call 36; (with_reducible refine (M2.out _).mono ?_); rintro e wn ⟨rfl, rfl⟩)
              | (go_at_call 42; (with_reducible refine (M1.out _).mono ?_); rintro e wn ⟨rfl, rfl⟩))
          go_ret
          exact ⟨ret_b (NO.out (HNO.out (by rw [HOK.out, decide_eq_false_iff_not]; omega))).symm, HE.out⟩
        · have ht : ((j : Int) == (N : Int) - 1) = false := by rw [beq_eq_false_iff_ne]; omega
          go_wp2_with (first
              | (go_at_call 36; (with_reducible refine (M2.out _).mono ?_); rintro e wn ⟨rfl, rfl⟩)
              | (go_at_call 42; (with_reducible refine (M1.out _).mono ?_); rintro e wn ⟨rfl, rfl⟩))
          go_ret
          exact ⟨ret_b (NO.out (HNO.out (by rw [HOK.out, decide_eq_false_iff_not]; omega))).symm, HE.out⟩
      · have d1 : decide ((m : Int) < 1) = false := by rw [decide_eq_false_iff_not]; omega
        by_cases a2 : r < m
        · have d2 : decide ((r : Int) < (m : Int)) = true := by rw [decide_eq_true_iff]; omega
          by_cases hl1 : j + 1 = N
          · have ht : ((j : Int) == (N : Int) - 1) = true := by rw [beq_iff_eq]; omega
            go_wp2_with (first
                | (go_at_call 36; (with_reducible refine (M2.out _).mono ?_); rintro e wn ⟨rfl, rfl⟩)
                | (go_at_call 42; (with_reducible refine (M1.out _).mono ?_); rintro e wn ⟨rfl, rfl⟩))
            go_ret
            exact ⟨ret_b (NO.out (HNO.out (by rw [HOK.out, decide_eq_false_iff_not]; omega))).symm, HE.out⟩
          · have ht : ((j : Int) == (N : Int) - 1) = false := by rw [beq_eq_false_iff_ne]; omega
            go_wp2_with (first
                | (go_at_call 36; (with_reducible refine (M2.out _).mono ?_); rintro e wn ⟨rfl, rfl⟩)
                | (go_at_call 42; (with_reducible refine (M1.out _).mono ?_); rintro e wn ⟨rfl, rfl⟩))
            go_ret
            exact ⟨ret_b (NO.out (HNO.out (by rw [HOK.out, decide_eq_false_iff_not]; omega))).symm, HE.out⟩
        · have d2 : decide ((r : Int) < (m : Int)) = false := by rw [decide_eq_false_iff_not]; omega
          by_cases hl1 : j + 1 = N
          · have ht : ((j : Int) == (N : Int) - 1) = true := by rw [beq_iff_eq]; omega
            go_wp2_with (first
                | (go_at_call 36; (with_reducible refine (M2.out _).mono ?_); rintro e wn ⟨rfl, rfl⟩)
                | (go_at_call 42; (with_reducible refine (M1.out _).mono ?_); rintro e wn ⟨rfl, rfl⟩))
            refine ⟨⟨j + 1, by go_num, hlt, Lib.hid (NEXT.out (by rw [HOK.out, decide_eq_true_iff]; omega))⟩, by simp [intOf]; omega⟩
          · have ht : ((j : Int) == (N : Int) - 1) = false := by rw [beq_eq_false_iff_ne]; omega
            by_cases a3 : m < r'
            · have d3 : decide ((m : Int) < (r' : Int)) = true := by rw [decide_eq_true_iff]; omega
              go_wp2_with (first
                  | (go_at_call 36; (with_reducible refine (M2.out _).mono ?_); rintro e wn ⟨rfl, rfl⟩)
                  | (go_at_call 42; (with_reducible refine (M1.out _).mono ?_); rintro e wn ⟨rfl, rfl⟩))
              go_ret
              exact ⟨ret_b (NO.out (HNO.out (by rw [HOK.out, decide_eq_false_iff_not]; omega))).symm, HE.out⟩
            · have d3 : decide ((m : Int) < (r' : Int)) = false := by rw [decide_eq_false_iff_not]; omega
              go_wp2_with (first
                  | (go_at_call 36; (with_reducible refine (M2.out _).mono ?_); rintro e wn ⟨rfl, rfl⟩)
                  | (go_at_call 42; (with_reducible refine (M1.out _).mono ?_); rintro e wn ⟨rfl, rfl⟩))
              refine ⟨⟨j + 1, by go_num, hlt, Lib.hid (NEXT.out (by rw [HOK.out, decide_eq_true_iff]; omega))⟩, by simp [intOf]; omega⟩
    · have e : j = N := by omega
      subst e
      go_wp2
      go_ret
      refine ⟨ret_b ?_, HE.out⟩
      rw [YES.out (filled_yes fun i hi => HALL.out i (by rw [← HN.out]; exact hi)), HN.out, decide_eq_decide]
      omega

/-- What 'turned' answers. -/
def turnedB (ls : Lv) : Bool := inTurn 0 (allOf ls) && flatB ls
theorem turned_no1 {ls : Lv} {m : Nat} {P L R : List Sp} {b : Sp} {i : Nat} (hP : allOf (ls.drop (i + 1)) = P) (hL : lev ls i = L) (hi : i < ls.length) (hm : L = R ++ b :: L.drop m) (h1 : inTurn 0 (P ++ R) = true) (h : nextB (behind (P ++ R)) b = false) : turnedB ls = false := by
  obtain ⟨suf, hs⟩ := allOf_pre ls i
  rw [allOf_drop hi, hP, hL] at hs
  unfold turnedB
  rw [hs, hm, show P ++ (R ++ b :: L.drop m) ++ suf = ((P ++ R) ++ [b]) ++ (L.drop m ++ suf) by simp, turn_pre (by rw [turn_snoc h1, h]), Bool.false_and]
theorem turned_no2 {ls : Lv} {b : Sp} (hb : b ∈ lev ls 0) (h : b.1 ≠ b.2) : turnedB ls = false := by
  unfold turnedB flatB
  rw [Bool.and_eq_false_iff]
  right
  rw [List.all_eq_false]
  exact ⟨b, hb, by simpa using h⟩
theorem flat_yes {ls : Lv} (h : ∀ x ∈ lev ls 0, x.1 = x.2) : flatB ls = true := by
  unfold flatB
  rw [List.all_eq_true]
  intro x hx
  simpa using h x hx

end Go.Proofs.Ytoplbjanemjebaa
