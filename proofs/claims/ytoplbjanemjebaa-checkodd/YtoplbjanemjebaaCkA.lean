/- The contracts of check's small functions (mayBe, few, filled, light, Buckets) and of the document's Few and Buckets. -/
import Derived.Test.YtoplbjanemjebaaHRef6
import Derived.Test.YtoplbjanemjebaaCkMath
namespace Go.Proofs.Ytoplbjanemjebaa
open Go.RowKit Go.Shelf Go.Proofs.Rw Go.Proofs.Lh

/-- Whether K and Gen may be. -/
def okKG (k g : Int) : Bool := decide ((2 ≤ k ∧ k ≤ 1024) ∧ 0 ≤ g ∧ g ≤ 4)

theorem ckMay_any (k g : Int) (w : World) :
    Calls Try.prog 22 #[.int .i64 k, .int .i64 g] w fun e w' => e = .returned (.bool (okKG k g)) ∧ w = w' := by
  by_cases h0 : 2 ≤ k
  · by_cases h1 : k ≤ 1024
    · by_cases h2 : 0 ≤ g
      · by_cases h3 : g ≤ 4
        · go_enter Try.func22, Try.ntmps22
          go_wp2
          go_ret
          exact ⟨ret_b (by simp [okKG, h0, h1, h2, h3]), rfl⟩
        · go_enter Try.func22, Try.ntmps22
          go_wp2
          go_ret
          exact ⟨ret_b (by simp [okKG, h0, h1, h2, h3]), rfl⟩
      · go_enter Try.func22, Try.ntmps22
        go_wp2
        go_ret
        exact ⟨ret_b (by simp [okKG]; omega), rfl⟩
    · go_enter Try.func22, Try.ntmps22
      go_wp2
      go_ret
      exact ⟨ret_b (by simp [okKG]; omega), rfl⟩
  · go_enter Try.func22, Try.ntmps22
    go_wp2
    go_ret
    exact ⟨ret_b (by simp [okKG]; omega), rfl⟩

theorem rmay9_any (k : Int) (w : World) :
    Calls Try.prog 24 #[.int .i64 k] w fun e w' => e = .returned (.bool (decide (2 ≤ k ∧ k ≤ 1024))) ∧ w = w' := by
  by_cases h0 : 2 ≤ k
  · by_cases h1 : k ≤ 1024
    · go_enter Try.func24, Try.ntmps24
      go_wp2
      go_ret
      exact ⟨ret_b (by simp [h0, h1]), rfl⟩
    · go_enter Try.func24, Try.ntmps24
      go_wp2
      go_ret
      exact ⟨ret_b (by simp [h1]), rfl⟩
  · go_enter Try.func24, Try.ntmps24
    go_wp2
    go_ret
    exact ⟨ret_b (by simp; omega), rfl⟩

theorem few_any (k g : Int) (N : Nat) (A : Option Addr) (c : Nat) (w : World) :
    Calls Try.prog 37 #[hv k g (.slice A N c)] w fun e w' => e = .returned (.bool (decide (N ≤ 52))) ∧ Below w.heap.size w w' := by
  go_enter Try.func37, Try.ntmps37
  go_wp2
  go_ret
  exact ⟨ret_b (by rw [decide_eq_decide]; omega), (Below.refl _ w).alloc (Nat.le_refl _) _⟩

theorem least_rm (k i : Nat) : leastI (k : Int) (i : Int) = (rm k i : Int) - 1 := by
  unfold leastI rm
  by_cases h : i = 0
  · subst h; simp
  · rw [if_neg (by omega), if_neg h]; omega

/-- Whether each level has as many buckets as it may. -/
def filledB (k : Nat) (ls : Lv) : Bool := (List.range ls.length).all (levOk k ls)
theorem filled_yes {k : Nat} {ls : Lv} (h : ∀ i, i < ls.length → levOk k ls i = true) : filledB k ls = true := by
  unfold filledB
  rw [List.all_eq_true]
  intro i hi
  exact h i (List.mem_range.1 hi)
theorem filled_no {k : Nat} {ls : Lv} {i : Nat} (hi : i < ls.length) (h : levOk k ls i = false) : filledB k ls = false := by
  unfold filledB
  rw [List.all_eq_false]
  exact ⟨i, List.mem_range.2 hi, by simp [h]⟩

set_option maxHeartbeats 2000000 in
theorem filled_any (k : Nat) (hk : 2 ≤ k) (hk1 : k ≤ 1024) (g : Int) (ls : Lv) (hl : ls.length ≤ 1000000) (w : World) (A : Option Addr) (c : Nat) (h : Reads w w.heap.size (.slice A ls.length c) ls) :
    Calls Try.prog 38 #[hv (k : Int) g (.slice A ls.length c)] w fun e w' => e = .returned (.bool (filledB k ls)) ∧ Below w.heap.size w w' := by
  obtain ⟨N, hN⟩ : ∃ N, ls.length = N := ⟨_, rfl⟩
  have HL := Lib.hid h
  rw [hN] at HL hl ⊢
  have HN := Lib.hid hN
  have hkc : (k : Int) ≤ 9223372036854775806 := by omega
  clear h hN
  have HE := Lib.hid (show Below w.heap.size w (w.alloc (.cells #[.int .i64 (k : Int), .int .i64 g, .slice A N c] 32)) from (Below.refl _ w).alloc (Nat.le_refl _) _)
  go_enter Try.func38, Try.ntmps38
  go_wp2
  go_loop [9] (fun i => ∃ j : Nat, i = .int .i64 (j : Int) ∧ j ≤ N ∧ Hid (∀ i, i < j → levOk k ls i = true)) (fun i => N - (intOf i).toNat)
  case atStart => exact ⟨0, rfl, Nat.zero_le _, Lib.hid fun i hi => absurd hi (by omega)⟩
  case round =>
    obtain ⟨j, rfl, hj, HALL⟩ := hrel
    by_cases hlt : j < N
    · have hjl : j < ls.length := by rw [HN.out]; exact hlt
      obtain ⟨b, off, rfl, hb, -, hc⟩ := HL.out.at (by omega)
      obtain ⟨Ai, ci, q0, -, -, -⟩ := hc j hjl
      have hm1 := fun W => least_any (k : Int) (j : Int) hkc W
      have hm2 := fun W => most_any (k : Int) (j : Int) hkc W
      have hrm2 := rm_two k j (by omega)
      have hrm3 : rm k j ≤ 1025 := by unfold rm; split <;> omega
      have hok : levOk k ls j = decide (1 ≤ ls[j].length ∧ ls[j].length ≤ rm k j ∧ (j + 1 = ls.length ∨ rm k j - 1 ≤ ls[j].length)) := by unfold levOk; rw [lev_lt hjl]
      rw [least_rm] at hm1 hm2
      rw [HN.out] at hok
      have hno := fun h => filled_no (k := k) hjl h
      generalize ls[j].length = m at *
      generalize rm k j = r at *
      have hq2 : ((r : Int) - 1) + 1 = (r : Int) := by omega
      simp only [hq2] at hm2
      obtain ⟨r', hr'⟩ : ∃ r' : Nat, (r : Int) - 1 = (r' : Int) := ⟨r - 1, by omega⟩
      simp only [hr'] at hm1
      have M1 := Lib.hid hm1
      have M2 := Lib.hid hm2
      have HOK := Lib.hid hok
      have HNO := Lib.hid hno
      clear hc hm1 hm2 hq2 hok hno hjl
      have next : levOk k ls j = true → ∀ i, i < j + 1 → levOk k ls i = true := fun h i hi => by
        rcases Nat.lt_or_ge i j with h' | h'
        · exact HALL.out i h'
        · rw [show i = j by omega]; exact h
      have NEXT := Lib.hid next
      clear next
      by_cases hl1 : j + 1 = N
      · have ht : ((j : Int) == (N : Int) - 1) = true := by rw [beq_iff_eq]; omega
        by_cases a1 : m < 1
        · have d1 : decide ((m : Int) < 1) = true := by rw [decide_eq_true_iff]; omega
          go_wp2_with (first
            | (go_at_call 43; (with_reducible refine (M1.out _).mono ?_); rintro e wn ⟨rfl, rfl⟩)
            | (go_at_call 44; (with_reducible refine (M2.out _).mono ?_); rintro e wn ⟨rfl, rfl⟩))
          go_ret
          exact ⟨ret_b (HNO.out (by rw [HOK.out, decide_eq_false_iff_not]; omega)).symm, HE.out⟩
        · have d1 : decide ((m : Int) < 1) = false := by rw [decide_eq_false_iff_not]; omega
          by_cases a2 : r < m
          · have d2 : decide ((r : Int) < (m : Int)) = true := by rw [decide_eq_true_iff]; omega
            go_wp2_with (first
              | (go_at_call 43; (with_reducible refine (M1.out _).mono ?_); rintro e wn ⟨rfl, rfl⟩)
              | (go_at_call 44; (with_reducible refine (M2.out _).mono ?_); rintro e wn ⟨rfl, rfl⟩))
            go_ret
            exact ⟨ret_b (HNO.out (by rw [HOK.out, decide_eq_false_iff_not]; omega)).symm, HE.out⟩
          · have d2 : decide ((r : Int) < (m : Int)) = false := by rw [decide_eq_false_iff_not]; omega
            go_wp2_with (first
              | (go_at_call 43; (with_reducible refine (M1.out _).mono ?_); rintro e wn ⟨rfl, rfl⟩)
              | (go_at_call 44; (with_reducible refine (M2.out _).mono ?_); rintro e wn ⟨rfl, rfl⟩))
            refine ⟨⟨j + 1, by go_num, hlt, Lib.hid (NEXT.out (by rw [HOK.out, decide_eq_true_iff]; omega))⟩, by simp [intOf]; omega⟩
      · have ht : ((j : Int) == (N : Int) - 1) = false := by rw [beq_eq_false_iff_ne]; omega
        by_cases a1 : m < r'
        · have d1 : decide ((m : Int) < (r' : Int)) = true := by rw [decide_eq_true_iff]; omega
          go_wp2_with (first
            | (go_at_call 43; (with_reducible refine (M1.out _).mono ?_); rintro e wn ⟨rfl, rfl⟩)
            | (go_at_call 44; (with_reducible refine (M2.out _).mono ?_); rintro e wn ⟨rfl, rfl⟩))
          go_ret
          exact ⟨ret_b (HNO.out (by rw [HOK.out, decide_eq_false_iff_not]; omega)).symm, HE.out⟩
        · have d1 : decide ((m : Int) < (r' : Int)) = false := by rw [decide_eq_false_iff_not]; omega
          by_cases a2 : r < m
          · have d2 : decide ((r : Int) < (m : Int)) = true := by rw [decide_eq_true_iff]; omega
            go_wp2_with (first
              | (go_at_call 43; (with_reducible refine (M1.out _).mono ?_); rintro e wn ⟨rfl, rfl⟩)
              | (go_at_call 44; (with_reducible refine (M2.out _).mono ?_); rintro e wn ⟨rfl, rfl⟩))
            go_ret
            exact ⟨ret_b (HNO.out (by rw [HOK.out, decide_eq_false_iff_not]; omega)).symm, HE.out⟩
          · have d2 : decide ((r : Int) < (m : Int)) = false := by rw [decide_eq_false_iff_not]; omega
            go_wp2_with (first
              | (go_at_call 43; (with_reducible refine (M1.out _).mono ?_); rintro e wn ⟨rfl, rfl⟩)
              | (go_at_call 44; (with_reducible refine (M2.out _).mono ?_); rintro e wn ⟨rfl, rfl⟩))
            refine ⟨⟨j + 1, by go_num, hlt, Lib.hid (NEXT.out (by rw [HOK.out, decide_eq_true_iff]; omega))⟩, by simp [intOf]; omega⟩
    · have e : j = N := by omega
      subst e
      go_wp2
      go_ret
      exact ⟨ret_b (filled_yes fun i hi => HALL.out i (by rw [← HN.out]; exact hi)).symm, HE.out⟩

theorem light_any (k g : Int) (ls : Lv) (hl : ls.length ≤ 60) (ht : tot ls ≤ 4611686018427387904) (w : World) (A : Option Addr) (c : Nat) (h : Reads w w.heap.size (.slice A ls.length c) ls) :
    Calls Try.prog 39 #[hv k g (.slice A ls.length c)] w fun e w' => e = .returned (.bool (decide (tot ls ≤ 4503599627370496))) ∧ Below w.heap.size w w' := by
  have hb0 : Below w.heap.size w (w.alloc (.cells #[.int .i64 k, .int .i64 g, .slice A ls.length c] 32)) := (Below.refl _ w).alloc (Nat.le_refl _) _
  have hp := total_rd k g ls hl ht _ A c (h.grow hb0)
  have HP := Lib.hid hp
  have HB0 := Lib.hid hb0
  have HT := Lib.hid ht
  generalize tot ls = t at *
  clear hp hb0 ht h
  go_enter Try.func39, Try.ntmps39
  go_wp2_with (go_at_call 45; refine HP.out.mono ?_; rintro e w1 ⟨rfl, hb1⟩; have HB1 := Lib.hid hb1; clear hb1)
  go_ret
  exact ⟨ret_b (by rw [decide_eq_decide]; omega), thn HB0.out HB1.out⟩

theorem cnt_le (ls : Lv) : ∀ i, cnt (ls.take i) ≤ cnt ls := fun i => by
  have := cnt_app (ls.take i) (ls.drop i)
  rw [List.take_append_drop] at this
  omega

set_option maxHeartbeats 1000000 in
theorem buckets_any (k g : Int) (ls : Lv) (hl : ls.length ≤ 1000000) (hc : cnt ls ≤ 1000000) (w : World) (A : Option Addr) (c : Nat) (h : Reads w w.heap.size (.slice A ls.length c) ls) :
    Calls Try.prog 13 #[hv k g (.slice A ls.length c)] w fun e w' => e = .returned (.int .i64 (cnt ls : Int)) ∧ Below w.heap.size w w' := by
  obtain ⟨N, hN⟩ : ∃ N, ls.length = N := ⟨_, rfl⟩
  have HL := Lib.hid h
  rw [hN] at HL hl ⊢
  have HN := Lib.hid hN
  have HC := Lib.hid hc
  clear h hN hc
  have HE := Lib.hid (show Below w.heap.size w (w.alloc (.cells #[.int .i64 k, .int .i64 g, .slice A N c] 32)) from (Below.refl _ w).alloc (Nat.le_refl _) _)
  go_enter Try.func13, Try.ntmps13
  go_wp2
  go_loop [3, 9] (fun s i => ∃ j : Nat, i = .int .i64 (j : Int) ∧ j ≤ N ∧ s = .int .i64 (cnt (ls.take j) : Nat)) (fun _ i => N - (intOf i).toNat)
  case atStart => exact ⟨0, rfl, Nat.zero_le _, rfl⟩
  case round =>
    obtain ⟨j, rfl, hj, rfl⟩ := hrel
    by_cases hlt : j < N
    · have hjl : j < ls.length := by rw [HN.out]; exact hlt
      obtain ⟨b, off, rfl, hb, -, hc⟩ := HL.out.at (by omega)
      obtain ⟨Ai, ci, q0, -, -, -⟩ := hc j hjl
      have hstep := cnt_take hjl
      have hle := cnt_le ls (j + 1)
      have hcc := HC.out
      obtain ⟨s, hs⟩ : ∃ s, cnt (ls.take j) = s := ⟨_, rfl⟩
      rw [hs] at hstep
      rw [hs]
      generalize ls[j].length = m at *
      have hsd : (s : Int) + (m : Int) ≤ 1000000 := by omega
      have HST := Lib.hid hstep
      clear hc hstep hle hs hcc hjl
      go_wp2
      refine ⟨⟨j + 1, by go_num, hlt, ?_⟩, by simp [intOf]; omega⟩
      rw [HST.out]
      go_num
    · have e : j = N := by omega
      subst e
      have ef : cnt (ls.take j) = cnt ls := by rw [← HN.out, List.take_length]
      rw [ef]
      clear ef
      go_wp2
      go_ret
      exact ⟨rfl, HE.out⟩

set_option maxHeartbeats 1000000 in
theorem rbuckets_any (k g : Int) (ls : Lv) (hl : ls.length ≤ 1000000) (hc : cnt ls ≤ 1000000) (w : World) (A : Option Addr) (c : Nat) (h : Reads w w.heap.size (.slice A ls.length c) ls) :
    Calls Try.prog 14 #[hv k g (.slice A ls.length c)] w fun e w' => e = .returned (.int .i64 (cnt ls : Int)) ∧ Below w.heap.size w w' := by
  obtain ⟨N, hN⟩ : ∃ N, ls.length = N := ⟨_, rfl⟩
  have HL := Lib.hid h
  rw [hN] at HL hl ⊢
  have HN := Lib.hid hN
  have HC := Lib.hid hc
  clear h hN hc
  have HE := Lib.hid (show Below w.heap.size w (w.alloc (.cells #[.int .i64 k, .int .i64 g, .slice A N c] 29)) from (Below.refl _ w).alloc (Nat.le_refl _) _)
  go_enter Try.func14, Try.ntmps14
  go_wp2
  go_loop [3, 4] (fun s i => ∃ j : Nat, i = .int .i64 (j : Int) ∧ j ≤ N ∧ s = .int .i64 (cnt (ls.take j) : Nat)) (fun _ i => N - (intOf i).toNat)
  case atStart => exact ⟨0, rfl, Nat.zero_le _, rfl⟩
  case round =>
    obtain ⟨j, rfl, hj, rfl⟩ := hrel
    by_cases hlt : j < N
    · have hjl : j < ls.length := by rw [HN.out]; exact hlt
      obtain ⟨b, off, rfl, hb, -, hc⟩ := HL.out.at (by omega)
      obtain ⟨Ai, ci, q0, -, -, -⟩ := hc j hjl
      have hstep := cnt_take hjl
      have hle := cnt_le ls (j + 1)
      have hcc := HC.out
      obtain ⟨s, hs⟩ : ∃ s, cnt (ls.take j) = s := ⟨_, rfl⟩
      rw [hs] at hstep
      rw [hs]
      generalize ls[j].length = m at *
      have hsd : (s : Int) + (m : Int) ≤ 1000000 := by omega
      have HST := Lib.hid hstep
      clear hc hstep hle hs hcc hjl
      go_wp2
      refine ⟨⟨j + 1, by go_num, hlt, ?_⟩, by simp [intOf]; omega⟩
      rw [HST.out]
      go_num
    · have e : j = N := by omega
      subst e
      have ef : cnt (ls.take j) = cnt ls := by rw [← HN.out, List.take_length]
      rw [ef]
      clear ef
      go_wp2
      go_ret
      exact ⟨rfl, HE.out⟩

/-- At most 60 levels, of 40 buckets each. -/
def fewB (ls : Lv) : Bool := decide (ls.length ≤ 60 ∧ ∀ i, i < ls.length → (lev ls i).length ≤ 40)

set_option maxHeartbeats 1000000 in
theorem rfew_any (k g : Int) (ls : Lv) (w : World) (A : Option Addr) (c : Nat) (h : Reads w w.heap.size (.slice A ls.length c) ls) :
    Calls Try.prog 9 #[hv k g (.slice A ls.length c)] w fun e w' => e = .returned (.bool (fewB ls)) ∧ Below w.heap.size w w' := by
  obtain ⟨N, hN⟩ : ∃ N, ls.length = N := ⟨_, rfl⟩
  have HL := Lib.hid h
  rw [hN] at HL ⊢
  have HN := Lib.hid hN
  clear h hN
  have HE := Lib.hid (show Below w.heap.size w (w.alloc (.cells #[.int .i64 k, .int .i64 g, .slice A N c] 24)) from (Below.refl _ w).alloc (Nat.le_refl _) _)
  go_enter Try.func9, Try.ntmps9
  go_wp2
  go_loop [3] (fun i => ∃ j : Nat, i = .int .i64 (j : Int) ∧ j ≤ N ∧ j ≤ 61 ∧ Hid (∀ i, i < j → (lev ls i).length ≤ 40)) (fun i => N - (intOf i).toNat)
  case atStart => exact ⟨0, rfl, Nat.zero_le _, by omega, Lib.hid fun i hi => absurd hi (by omega)⟩
  case round =>
    obtain ⟨j, rfl, hj, hj61, HALL⟩ := hrel
    by_cases hlt : j < N
    · by_cases h61 : j < 61
      · have hjl : j < ls.length := by rw [HN.out]; exact hlt
        obtain ⟨b, off, rfl, hb, -, hc⟩ := HL.out.at (by omega)
        obtain ⟨Ai, ci, q0, -, -, -⟩ := hc j hjl
        have hlv := congrArg List.length (lev_lt hjl)
        generalize ls[j].length = m at *
        have HLV := Lib.hid hlv
        clear hc hlv
        by_cases a1 : 40 < m
        · have d1 : decide ((40 : Int) < (m : Int)) = true := by rw [decide_eq_true_iff]; omega
          go_wp2
          go_ret
          refine ⟨ret_b ?_, HE.out⟩
          unfold fewB
          rw [eq_comm, decide_eq_false_iff_not]
          intro hh
          have := hh.2 j hjl
          have := HLV.out
          omega
        · have d1 : decide ((40 : Int) < (m : Int)) = false := by rw [decide_eq_false_iff_not]; omega
          clear hjl
          go_wp2
          refine ⟨⟨j + 1, by go_num, hlt, h61, Lib.hid fun i hi => ?_⟩, by simp [intOf]; omega⟩
          rcases Nat.lt_or_ge i j with h' | h'
          · exact HALL.out i h'
          · rw [show i = j by omega, HLV.out]; omega
      · have d0 : decide ((N : Int) ≤ 60) = false := by rw [decide_eq_false_iff_not]; omega
        go_wp2
        go_ret
        refine ⟨ret_b ?_, HE.out⟩
        unfold fewB
        rw [eq_comm, decide_eq_false_iff_not]
        intro hh
        have := hh.1
        have := HN.out
        omega
    · have e : j = N := by omega
      subst e
      go_wp2
      go_ret
      refine ⟨ret_b ?_, HE.out⟩
      unfold fewB
      rw [decide_eq_decide]
      have := HN.out
      constructor
      · intro h
        exact ⟨by omega, fun i hi => HALL.out i (by omega)⟩
      · intro h
        omega

end Go.Proofs.Ytoplbjanemjebaa
