/- For regions that make slices, call, and lay what is told into new variables of unlike types: facts that last. · The contracts of check's small functions (mayBe, few, filled, light, Buckets) and of the document's Few and Buckets. · The contracts of check's walk, of slices.Backward as check calls it, and of check.inTurn. · The contract of check.inTurn. -/
import Derived.Test.YtmdknedngiggdaaJ19
import Derived.Test.YtmdknedngiggdaaJ08
import Derived.Test.YtmdknedngiggdaaJ05
import Derived.Test.YtmdknedngiggdaaJ10
section
/- For regions that make slices, call, and lay what is told into new variables of unlike types: facts that last. -/
namespace Go.Proofs.Ytmdknedngiggdaa
open Go.RowKit Go.Shelf Go.Proofs.Rw Go.Proofs.Lh Go.Proofs.Rf

/-- What operation j of a region does; f: the types of what it stores. -/
def Es (f : Nat → Option TypeId) (B j : Nat) (W W' : World) : Prop := Grows W W' ∨ ∃ T, f j = some T ∧ T ≠ 65 ∧ T ≠ 73 ∧ St3 T B W W'
/-- Two stores, of unlike types. -/
def two (a b : Nat) (T U : TypeId) (j : Nat) : Option TypeId := if j = a then some T else if j = b then some U else none
theorem two_ne1 {a b : Nat} {T U : TypeId} {j : Nat} (h : j ≠ a) (hT : T ≠ U) : two a b T U j ≠ some T := by
  unfold two
  rw [if_neg h]
  split
  · intro e
    cases e
    exact hT rfl
  · simp
theorem two_ne2 {a b : Nat} {T U : TypeId} {j : Nat} (h : j ≠ b) (hT : T ≠ U) : two a b T U j ≠ some U := by
  unfold two
  by_cases hja : j = a
  · rw [if_pos hja]
    intro e
    cases e
    exact hT rfl
  · rw [if_neg hja, if_neg h]
    simp
theorem two_one {a : Nat} {T : TypeId} {j : Nat} (h : j ≠ a) : two a a T T j ≠ some T := by
  unfold two
  rw [if_neg h, if_neg h]
  simp
section
variable {f : Nat → Option TypeId} {B j : Nat} {W W' : World} (h : Es f B j W W')
include h
theorem Es.below {w : World} (hg : Below B w W) (hB : B ≤ W.heap.size) : Below B w W' := by
  rcases h with h | ⟨T, _, _, _, h⟩
  · exact hg.trans (Below.mono h hB)
  · exact Ea.below (s := 0) (j := 0) (.inr ⟨rfl, h⟩) hg hB
theorem levs_es {v : Value} {ls : Lv} (hL : Levs W W.heap.size v ls) : Levs W' W'.heap.size v ls := by
  rcases h with h | ⟨T, _, h1, h2, h⟩
  · exact hL.grow h
  · exact levs_ea h1 h2 (s := 0) (j := 0) (.inr ⟨rfl, h⟩) hL
theorem nw3_es {T : TypeId} {u : Value} (hf : Nw3 T B u W) : Nw3 T B u W' := by
  rcases h with h | ⟨T', _, _, _, p', a, b, c, a', b', c', hp, hq, hq', hgr⟩
  · exact Nw3.ea (s := 0) (j := 0) (.inl h) hf
  · obtain ⟨p, x, y, z, h3, h4, h5⟩ := hf
    by_cases e : p = p'
    · subst e
      rw [h5] at hq
      cases hq
      exact ⟨p, a', b', c', h3, h4, hq'⟩
    · exact ⟨p, x, y, z, h3, h4, (hgr.block p (lt_of h5) (by simpa using e)).trans h5⟩
end
/-- A histogram, as a value. -/
def Hq (k g : Int) (ls : Lv) (u : Value) (W : World) : Prop := ∃ (A : Option Addr) (c : Nat), u = .agg #[.int .i64 k, .int .i64 g, .slice A ls.length c] ∧ Levs W W.heap.size (.slice A ls.length c) ls
theorem hq_es {f : Nat → Option TypeId} {B j : Nat} {W W' : World} (h : Es f B j W W') {k g : Int} {ls : Lv} {u : Value} (hf : Hq k g ls u W) : Hq k g ls u W' := by
  obtain ⟨A, c, a, b⟩ := hf
  exact ⟨A, c, a, levs_es h b⟩
/-- A histogram that lies in a new variable. -/
def Yg (T : TypeId) (B : Nat) (k g : Int) (ls : Lv) (u : Value) (W : World) : Prop := ∃ (p : Nat) (A : Option Addr) (c : Nat), u = .pointer (some ⟨p, 0, none⟩) ∧ B ≤ p ∧ W.heap[p]? = some (.cells #[.int .i64 k, .int .i64 g, .slice A ls.length c] T) ∧ Levs W W.heap.size (.slice A ls.length c) ls
theorem yg_es {f : Nat → Option TypeId} {B j : Nat} {W W' : World} (h : Es f B j W W') {T : TypeId} (hj : f j ≠ some T) {k g : Int} {ls : Lv} {u : Value} (hf : Yg T B k g ls u W) : Yg T B k g ls u W' := by
  obtain ⟨p, A, c, h3, h4, h5, h6⟩ := hf
  refine ⟨p, A, c, h3, h4, ?_, levs_es h h6⟩
  rcases h with h | ⟨T', e, _, _, p', a, b, c, a', b', c', hp, hq, hq', hgr⟩
  · exact (Below.block h p (lt_of h5)).trans h5
  · by_cases e' : p = p'
    · subst e'
      rw [h5] at hq
      cases hq
      exact absurd e hj
    · exact (hgr.block p (lt_of h5) (by simpa using e')).trans h5
/-- A slice of histograms that was just made. -/
def Bs (T : TypeId) (xs : List Hx) (u : Value) (W : World) : Prop := ∃ (b : Nat) (cs : Array Value), u = .slice (some ⟨b, 0, none⟩) xs.length xs.length ∧ W.heap[b]? = some (.cells cs T) ∧ cs.toList = hxL.cells xs ∧ cs.size ≠ 3 ∧ ∀ x ∈ xs, x.In W
theorem bs_es {f : Nat → Option TypeId} {B j : Nat} {W W' : World} (h : Es f B j W W') {T : TypeId} {xs : List Hx} {u : Value} (hf : Bs T xs u W) : Bs T xs u W' := by
  obtain ⟨b, cs, h1, h2, h3, h4, h5⟩ := hf
  refine ⟨b, cs, h1, ?_, h3, h4, fun x hx => levs_es h (h5 x hx)⟩
  rcases h with h | ⟨T', e, _, _, p', x, y, z, a', b', c', hp, hq, hq', hgr⟩
  · exact (Below.block h b (lt_of h2)).trans h2
  · by_cases e' : b = p'
    · subst e'
      rw [h2] at hq
      cases hq
      exact absurd rfl h4
    · exact (hgr.block b (lt_of h2) (by simpa using e')).trans h2
theorem Bs.hs {T : TypeId} {xs : List Hx} {u : Value} {W : World} (h : Bs T xs u W) (hm : xs.length ≤ 1000) : ∃ b, u = .slice (some ⟨b, 0, none⟩) xs.length xs.length ∧ Hs W W.heap.size u xs := by
  obtain ⟨b, cs, rfl, h2, h3, _, h5⟩ := h
  exact ⟨b, rfl, hs_block h2 xs h3 _ rfl hm h5⟩
/-- What the law's merged tells. -/
def Mq (k g : Int) (ls : Lv) (u : Value) (W : World) : Prop := ∃ (A A2 : Option Addr) (c c2 : Nat), u = .tuple #[.agg #[.int .i64 k, .int .i64 g, .slice A ls.length c], .agg #[.int .i64 k, .int .i64 g, .slice A2 ls.length c2], .bool true] ∧ Levs W W.heap.size (.slice A ls.length c) ls ∧ Levs W W.heap.size (.slice A2 ls.length c2) ls
theorem mq_es {f : Nat → Option TypeId} {B j : Nat} {W W' : World} (h : Es f B j W W') {k g : Int} {ls : Lv} {u : Value} (hf : Mq k g ls u W) : Mq k g ls u W' := by
  obtain ⟨A, A2, c, c2, a, b, b2⟩ := hf
  exact ⟨A, A2, c, c2, a, levs_es h b, levs_es h b2⟩
/-- What Merge tells. -/
def Gq (k g : Int) (ls : Lv) (C : Int) (u : Value) (W : World) : Prop := ∃ (A : Option Addr) (c : Nat), u = .tuple #[.agg #[.int .i64 k, .int .i64 g, .slice A ls.length c], .int .i64 C] ∧ Levs W W.heap.size (.slice A ls.length c) ls
theorem gq_es {f : Nat → Option TypeId} {B j : Nat} {W W' : World} (h : Es f B j W W') {k g : Int} {ls : Lv} {C : Int} {u : Value} (hf : Gq k g ls C u W) : Gq k g ls C u W' := by
  obtain ⟨A, c, a, b⟩ := hf
  exact ⟨A, c, a, levs_es h b⟩
/-- A new variable of a histogram. -/
theorem nw3_new {T : TypeId} {B : Nat} {W : World} (hB : B ≤ W.heap.size) (x y z : Value) : Nw3 T B (.pointer (some ⟨W.heap.size, 0, none⟩)) (W.alloc (.cells #[x, y, z] T)) := ⟨W.heap.size, x, y, z, rfl, hB, World.alloc_heap_new _ _⟩
end Go.Proofs.Ytmdknedngiggdaa
end
section
/- The contracts of check's small functions (mayBe, few, filled, light, Buckets) and of the document's Few and Buckets. -/
namespace Go.Proofs.Ytmdknedngiggdaa
open Go.RowKit Go.Shelf Go.Proofs.Rw Go.Proofs.Lh

/-- Whether K and Gen may be. -/
def okKG (k g : Int) : Bool := decide ((2 ≤ k ∧ k ≤ 1024) ∧ 0 ≤ g ∧ g ≤ 4)

theorem ckMay_any (k g : Int) (w : World) :
    Calls Try.prog 49 #[.int .i64 k, .int .i64 g] w fun e w' => e = .returned (.bool (okKG k g)) ∧ w = w' := by
  by_cases h0 : 2 ≤ k
  · by_cases h1 : k ≤ 1024
    · by_cases h2 : 0 ≤ g
      · by_cases h3 : g ≤ 4
        · go_enter Try.func49, Try.ntmps49
          go_wp2
          go_ret
          exact ⟨ret_b (by simp [okKG, h0, h1, h2, h3]), rfl⟩
        · go_enter Try.func49, Try.ntmps49
          go_wp2
          go_ret
          exact ⟨ret_b (by simp [okKG, h0, h1, h2, h3]), rfl⟩
      · go_enter Try.func49, Try.ntmps49
        go_wp2
        go_ret
        exact ⟨ret_b (by simp [okKG]; omega), rfl⟩
    · go_enter Try.func49, Try.ntmps49
      go_wp2
      go_ret
      exact ⟨ret_b (by simp [okKG]; omega), rfl⟩
  · go_enter Try.func49, Try.ntmps49
    go_wp2
    go_ret
    exact ⟨ret_b (by simp [okKG]; omega), rfl⟩

theorem rmay9_any (k : Int) (w : World) :
    Calls Try.prog 42 #[.int .i64 k] w fun e w' => e = .returned (.bool (decide (2 ≤ k ∧ k ≤ 1024))) ∧ w = w' := by
  by_cases h0 : 2 ≤ k
  · by_cases h1 : k ≤ 1024
    · go_enter Try.func42, Try.ntmps42
      go_wp2
      go_ret
      exact ⟨ret_b (by simp [h0, h1]), rfl⟩
    · go_enter Try.func42, Try.ntmps42
      go_wp2
      go_ret
      exact ⟨ret_b (by simp [h1]), rfl⟩
  · go_enter Try.func42, Try.ntmps42
    go_wp2
    go_ret
    exact ⟨ret_b (by simp; omega), rfl⟩

theorem few_any (k g : Int) (N : Nat) (A : Option Addr) (c : Nat) (w : World) :
    Calls Try.prog 69 #[hv k g (.slice A N c)] w fun e w' => e = .returned (.bool (decide (N ≤ 52))) ∧ Below w.heap.size w w' := by
  go_enter Try.func69, Try.ntmps69
  go_wp2
  go_ret
  exact ⟨ret_b (by rw [decide_eq_decide]; omega), (Below.refl _ w).alloc (Nat.le_refl _) _⟩

theorem least_rm (k i : Nat) : leastI (k : Int) (i : Int) = (rm k i : Int) - 1 := by
  unfold leastI rm
  by_cases h : i = 0
  · subst h; simp
  · rw [if_neg (by omega), if_neg h]; omega

/-- Whether each level has as many buckets as it may. -/
def filledB (k : Nat) (ls : Lv) : Bool := (List.range ls.length).all (levOk k ls)
theorem filled_yes {k : Nat} {ls : Lv} (h : ∀ i, i < ls.length → levOk k ls i = true) : filledB k ls = true := by
  unfold filledB
  rw [List.all_eq_true]
  intro i hi
  exact h i (List.mem_range.1 hi)
theorem filled_no {k : Nat} {ls : Lv} {i : Nat} (hi : i < ls.length) (h : levOk k ls i = false) : filledB k ls = false := by
  unfold filledB
  rw [List.all_eq_false]
  exact ⟨i, List.mem_range.2 hi, by simp [h]⟩

set_option maxHeartbeats 2000000 in
theorem filled_any (k : Nat) (hk : 2 ≤ k) (hk1 : k ≤ 1024) (g : Int) (ls : Lv) (hl : ls.length ≤ 1000000) (w : World) (A : Option Addr) (c : Nat) (h : Reads w w.heap.size (.slice A ls.length c) ls) :
    Calls Try.prog 70 #[hv (k : Int) g (.slice A ls.length c)] w fun e w' => e = .returned (.bool (filledB k ls)) ∧ Below w.heap.size w w' := by
  obtain ⟨N, hN⟩ : ∃ N, ls.length = N := ⟨_, rfl⟩
  have HL := Lib.hid h
  rw [hN] at HL hl ⊢
  have HN := Lib.hid hN
  have hkc : (k : Int) ≤ 9223372036854775806 := by omega
  clear h hN
  have HE := Lib.hid (show Below w.heap.size w (w.alloc (.cells #[.int .i64 (k : Int), .int .i64 g, .slice A N c] 30)) from (Below.refl _ w).alloc (Nat.le_refl _) _)
  go_enter Try.func70, Try.ntmps70
  go_wp2
  go_loop [9] (fun i => ∃ j : Nat, i = .int .i64 (j : Int) ∧ j ≤ N ∧ Hid (∀ i, i < j → levOk k ls i = true)) (fun i => N - (intOf i).toNat)
  case atStart => exact ⟨0, rfl, Nat.zero_le _, Lib.hid fun i hi => absurd hi (by omega)⟩
  case round =>
    obtain ⟨j, rfl, hj, HALL⟩ := hrel
    by_cases hlt : j < N
    · have hjl : j < ls.length := by rw [HN.out]; exact hlt
      obtain ⟨b, off, rfl, hb, -, hc⟩ := HL.out.at (by omega)
      obtain ⟨Ai, ci, q0, -, -, -⟩ := hc j hjl
      have hm1 := fun W => least_any (k : Int) (j : Int) hkc W
      have hm2 := fun W => most_any (k : Int) (j : Int) hkc W
      have hrm2 := rm_two k j (by omega)
      have hrm3 : rm k j ≤ 1025 := by unfold rm; split <;> omega
      have hok : levOk k ls j = decide (1 ≤ ls[j].length ∧ ls[j].length ≤ rm k j ∧ (j + 1 = ls.length ∨ rm k j - 1 ≤ ls[j].length)) := by unfold levOk; rw [lev_lt hjl]
      rw [least_rm] at hm1 hm2
      rw [HN.out] at hok
      have hno := fun h => filled_no (k := k) hjl h
      generalize ls[j].length = m at *
      generalize rm k j = r at *
      have hq2 : ((r : Int) - 1) + 1 = (r : Int) := by omega
      simp only [hq2] at hm2
      obtain ⟨r', hr'⟩ : ∃ r' : Nat, (r : Int) - 1 = (r' : Int) := ⟨r - 1, by omega⟩
      simp only [hr'] at hm1
      have M1 := Lib.hid hm1
      have M2 := Lib.hid hm2
      have HOK := Lib.hid hok
      have HNO := Lib.hid hno
      clear hc hm1 hm2 hq2 hok hno hjl
      have next : levOk k ls j = true → ∀ i, i < j + 1 → levOk k ls i = true := fun h i hi => by
        rcases Nat.lt_or_ge i j with h' | h'
        · exact HALL.out i h'
        · rw [show i = j by omega]; exact h
      have NEXT := Lib.hid next
      clear next
      by_cases hl1 : j + 1 = N
      · have ht : ((j : Int) == (N : Int) - 1) = true := by rw [beq_iff_eq]; omega
        by_cases a1 : m < 1
        · have d1 : decide ((m : Int) < 1) = true := by rw [decide_eq_true_iff]; omega
          go_wp2_with (first
            | (go_at_call 83; (with_reducible refine (M1.out _).mono ?_); rintro e wn ⟨rfl, rfl⟩)
            | (go_at_call 84; (with_reducible refine (M2.out _).mono ?_); rintro e wn ⟨rfl, rfl⟩))
          go_ret
          exact ⟨ret_b (HNO.out (by rw [HOK.out, decide_eq_false_iff_not]; omega)).symm, HE.out⟩
        · have d1 : decide ((m : Int) < 1) = false := by rw [decide_eq_false_iff_not]; omega
          by_cases a2 : r < m
          · have d2 : decide ((r : Int) < (m : Int)) = true := by rw [decide_eq_true_iff]; omega
            go_wp2_with (first
              | (go_at_call 83; (with_reducible refine (M1.out _).mono ?_); rintro e wn ⟨rfl, rfl⟩)
              | (go_at_call 84; (with_reducible refine (M2.out _).mono ?_); rintro e wn ⟨rfl, rfl⟩))
            go_ret
            exact ⟨ret_b (HNO.out (by rw [HOK.out, decide_eq_false_iff_not]; omega)).symm, HE.out⟩
          · have d2 : decide ((r : Int) < (m : Int)) = false := by rw [decide_eq_false_iff_not]; omega
            go_wp2_with (first
              | (go_at_call 83; (with_reducible refine (M1.out _).mono ?_); rintro e wn ⟨rfl, rfl⟩)
              | (go_at_call 84; (with_reducible refine (M2.out _).mono ?_); rintro e wn ⟨rfl, rfl⟩))
            refine ⟨⟨j + 1, by go_num, hlt, Lib.hid (NEXT.out (by rw [HOK.out, decide_eq_true_iff]; omega))⟩, by simp [intOf]; omega⟩
      · have ht : ((j : Int) == (N : Int) - 1) = false := by rw [beq_eq_false_iff_ne]; omega
        by_cases a1 : m < r'
        · have d1 : decide ((m : Int) < (r' : Int)) = true := by rw [decide_eq_true_iff]; omega
          go_wp2_with (first
            | (go_at_call 83; (with_reducible refine (M1.out _).mono ?_); rintro e wn ⟨rfl, rfl⟩)
            | (go_at_call 84; (with_reducible refine (M2.out _).mono ?_); rintro e wn ⟨rfl, rfl⟩))
          go_ret
          exact ⟨ret_b (HNO.out (by rw [HOK.out, decide_eq_false_iff_not]; omega)).symm, HE.out⟩
        · have d1 : decide ((m : Int) < (r' : Int)) = false := by rw [decide_eq_false_iff_not]; omega
          by_cases a2 : r < m
          · have d2 : decide ((r : Int) < (m : Int)) = true := by rw [decide_eq_true_iff]; omega
            go_wp2_with (first
              | (go_at_call 83; (with_reducible refine (M1.out _).mono ?_); rintro e wn ⟨rfl, rfl⟩)
              | (go_at_call 84; (with_reducible refine (M2.out _).mono ?_); rintro e wn ⟨rfl, rfl⟩))
            go_ret
            exact ⟨ret_b (HNO.out (by rw [HOK.out, decide_eq_false_iff_not]; omega)).symm, HE.out⟩
          · have d2 : decide ((r : Int) < (m : Int)) = false := by rw [decide_eq_false_iff_not]; omega
            go_wp2_with (first
              | (go_at_call 83; (with_reducible refine (M1.out _).mono ?_); rintro e wn ⟨rfl, rfl⟩)
              | (go_at_call 84; (with_reducible refine (M2.out _).mono ?_); rintro e wn ⟨rfl, rfl⟩))
            refine ⟨⟨j + 1, by go_num, hlt, Lib.hid (NEXT.out (by rw [HOK.out, decide_eq_true_iff]; omega))⟩, by simp [intOf]; omega⟩
    · have e : j = N := by omega
      subst e
      go_wp2
      go_ret
      exact ⟨ret_b (filled_yes fun i hi => HALL.out i (by rw [← HN.out]; exact hi)).symm, HE.out⟩

theorem light_any (k g : Int) (ls : Lv) (hl : ls.length ≤ 60) (ht : tot ls ≤ 4611686018427387904) (w : World) (A : Option Addr) (c : Nat) (h : Reads w w.heap.size (.slice A ls.length c) ls) :
    Calls Try.prog 71 #[hv k g (.slice A ls.length c)] w fun e w' => e = .returned (.bool (decide (tot ls ≤ 4503599627370496))) ∧ Below w.heap.size w w' := by
  have hb0 : Below w.heap.size w (w.alloc (.cells #[.int .i64 k, .int .i64 g, .slice A ls.length c] 30)) := (Below.refl _ w).alloc (Nat.le_refl _) _
  have hp := total_rd k g ls hl ht _ A c (h.grow hb0)
  have HP := Lib.hid hp
  have HB0 := Lib.hid hb0
  have HT := Lib.hid ht
  generalize tot ls = t at *
  clear hp hb0 ht h
  go_enter Try.func71, Try.ntmps71
  go_wp2_with (go_at_call 85; refine HP.out.mono ?_; rintro e w1 ⟨rfl, hb1⟩; have HB1 := Lib.hid hb1; clear hb1)
  go_ret
  exact ⟨ret_b (by rw [decide_eq_decide]; omega), thn HB0.out HB1.out⟩

theorem cnt_le (ls : Lv) : ∀ i, cnt (ls.take i) ≤ cnt ls := fun i => by
  have := cnt_app (ls.take i) (ls.drop i)
  rw [List.take_append_drop] at this
  omega

/-- At most 60 levels, of 40 buckets each. -/
def fewB (ls : Lv) : Bool := decide (ls.length ≤ 60 ∧ ∀ i, i < ls.length → (lev ls i).length ≤ 40)

set_option maxHeartbeats 1000000 in
theorem rfew_any (k g : Int) (ls : Lv) (w : World) (A : Option Addr) (c : Nat) (h : Reads w w.heap.size (.slice A ls.length c) ls) :
    Calls Try.prog 9 #[hv k g (.slice A ls.length c)] w fun e w' => e = .returned (.bool (fewB ls)) ∧ Below w.heap.size w w' := by
  obtain ⟨N, hN⟩ : ∃ N, ls.length = N := ⟨_, rfl⟩
  have HL := Lib.hid h
  rw [hN] at HL ⊢
  have HN := Lib.hid hN
  clear h hN
  have HE := Lib.hid (show Below w.heap.size w (w.alloc (.cells #[.int .i64 k, .int .i64 g, .slice A N c] 24)) from (Below.refl _ w).alloc (Nat.le_refl _) _)
  go_enter Try.func9, Try.ntmps9
  go_wp2
  go_loop [3] (fun i => ∃ j : Nat, i = .int .i64 (j : Int) ∧ j ≤ N ∧ j ≤ 61 ∧ Hid (∀ i, i < j → (lev ls i).length ≤ 40)) (fun i => N - (intOf i).toNat)
  case atStart => exact ⟨0, rfl, Nat.zero_le _, by omega, Lib.hid fun i hi => absurd hi (by omega)⟩
  case round =>
    obtain ⟨j, rfl, hj, hj61, HALL⟩ := hrel
    by_cases hlt : j < N
    · by_cases h61 : j < 61
      · have hjl : j < ls.length := by rw [HN.out]; exact hlt
        obtain ⟨b, off, rfl, hb, -, hc⟩ := HL.out.at (by omega)
        obtain ⟨Ai, ci, q0, -, -, -⟩ := hc j hjl
        have hlv := congrArg List.length (lev_lt hjl)
        generalize ls[j].length = m at *
        have HLV := Lib.hid hlv
        clear hc hlv
        by_cases a1 : 40 < m
        · have d1 : decide ((40 : Int) < (m : Int)) = true := by rw [decide_eq_true_iff]; omega
          go_wp2
          go_ret
          refine ⟨ret_b ?_, HE.out⟩
          unfold fewB
          rw [eq_comm, decide_eq_false_iff_not]
          intro hh
          have := hh.2 j hjl
          have := HLV.out
          omega
        · have d1 : decide ((40 : Int) < (m : Int)) = false := by rw [decide_eq_false_iff_not]; omega
          clear hjl
          go_wp2
          refine ⟨⟨j + 1, by go_num, hlt, h61, Lib.hid fun i hi => ?_⟩, by simp [intOf]; omega⟩
          rcases Nat.lt_or_ge i j with h' | h'
          · exact HALL.out i h'
          · rw [show i = j by omega, HLV.out]; omega
      · have d0 : decide ((N : Int) ≤ 60) = false := by rw [decide_eq_false_iff_not]; omega
        go_wp2
        go_ret
        refine ⟨ret_b ?_, HE.out⟩
        unfold fewB
        rw [eq_comm, decide_eq_false_iff_not]
        intro hh
        have := hh.1
        have := HN.out
        omega
    · have e : j = N := by omega
      subst e
      go_wp2
      go_ret
      refine ⟨ret_b ?_, HE.out⟩
      unfold fewB
      rw [decide_eq_decide]
      have := HN.out
      constructor
      · intro h
        exact ⟨by omega, fun i hi => HALL.out i (by omega)⟩
      · intro h
        omega

end Go.Proofs.Ytmdknedngiggdaa
end
section
/- The contracts of check's walk, of slices.Backward as check calls it, and of check.inTurn. -/
namespace Go.Proofs.Ytmdknedngiggdaa
open Go.RowKit Go.Shelf Go.Proofs.Rw Go.Proofs.Lh Go.Proofs.Rn

attribute [local go_sem] Oper.semAt_some

/-- Whether a bucket may stand behind the tick a. -/
def nextB (a : Nat) (b : Sp) : Bool := decide (b.1 ≤ b.2 ∧ a ≤ b.1 ∧ b.2 ≤ 9223372036854775807)

theorem inTurn_snoc (a : Nat) (xs : List Sp) (b : Sp) : inTurn a (xs ++ [b]) = (inTurn a xs && nextB ((xs.getLast?.map (·.2)).getD a) b) := by
  rw [inTurn_app]
  simp [inTurn, nextB]
theorem last_snoc (xs : List Sp) (b : Sp) (a : Nat) : (((xs ++ [b]).getLast?.map (·.2)).getD a) = b.2 := by simp
/-- The tick behind which the next bucket must stand. -/
def behind (xs : List Sp) : Nat := (xs.getLast?.map (·.2)).getD 0
theorem behind_nil : behind [] = 0 := rfl
theorem behind_snoc (xs : List Sp) (b : Sp) : behind (xs ++ [b]) = b.2 := last_snoc xs b 0
theorem turn_snoc {xs : List Sp} {b : Sp} (h : inTurn 0 xs = true) : inTurn 0 (xs ++ [b]) = nextB (behind xs) b := by
  rw [inTurn_snoc, h, Bool.true_and]; rfl
theorem turn_pre {xs ys : List Sp} (h : inTurn 0 xs = false) : inTurn 0 (xs ++ ys) = false := by rw [inTurn_app, h, Bool.false_and]

theorem wnext_any (a t0 t1 : Nat) (ba : Nat) (w : World) (hb : Boxed w ba 137 (.int .u64 (a : Int))) :
    Calls Try.prog 89 #[.pointer (some ⟨ba, 0, none⟩), .agg #[.int .u64 (t0 : Int), .int .u64 (t1 : Int)]] w fun e w' => e = .returned (.bool (nextB a (t0, t1))) ∧
      w' = (w.setCell ⟨ba, 0, none⟩ (.int .u64 (t1 : Int))).alloc (.cells #[.int .u64 (t0 : Int), .int .u64 (t1 : Int)] 73) := by
  have hc := hb.cell
  have hf := hb.frozen
  have hlt := hb.lt
  by_cases h1 : a ≤ t0
  · by_cases h2 : t0 ≤ t1
    · go_enter Try.func89, Try.ntmps89
      go_wp2
      go_ret
      exact ⟨ret_b (by unfold nextB; rw [decide_eq_decide]; dsimp only; omega), rfl⟩
    · go_enter Try.func89, Try.ntmps89
      go_wp2
      go_ret
      exact ⟨ret_b (by unfold nextB; rw [eq_comm, decide_eq_false_iff_not]; omega), rfl⟩
  · go_enter Try.func89, Try.ntmps89
    go_wp2
    go_ret
    exact ⟨ret_b (by unfold nextB; rw [eq_comm, decide_eq_false_iff_not]; omega), rfl⟩

/-- The round k of 'Backward': the level behind, from the last one on. -/
def PxBt (B : Nat) (ls : Lv) (k : Nat) (x : Yl) (W : World) : Prop := k < ls.length ∧ x.i = ls.length - 1 - k ∧ x.n = (lev ls (ls.length - 1 - k)).length ∧ Lies spL W B (.slice x.A x.n x.c) (lev ls (ls.length - 1 - k))
theorem PxBt.put {B : Nat} {ls : Lv} {w : World} (hB : B ≤ w.heap.size) (k : Nat) (x : Yl) (W : World) (l : Nat) (o o' : Obj) (hl : w.heap.size ≤ l) (_ : W.heap[l]? = some o) (_ : o.isCells = false) (h : PxBt B ls k x W) : PxBt B ls k x (W.putObj l o') :=
  ⟨h.1, h.2.1, h.2.2.1, h.2.2.2.keep fun b hb => World.putObj_heap_other (by omega)⟩

/-- Blocks below B, and the block bx, stay as they were. -/
def Kxt (B bx : Nat) (W W' : World) : Prop := Kb B W W' ∧ W'.heap[bx]? = W.heap[bx]?
theorem Kxt.refl (B bx : Nat) (W : World) : Kxt B bx W W := ⟨Kb.refl _ _, rfl⟩
theorem Kxt.trans {B bx : Nat} {X Y Z : World} (h : Kxt B bx X Y) (k : Kxt B bx Y Z) : Kxt B bx X Z := ⟨h.1.trans k.1, k.2.trans h.2⟩
theorem Kxt.put {B bx : Nat} {w : World} (hB : B ≤ w.heap.size) (hx : bx < w.heap.size) (W : World) (l : Nat) (o o' : Obj) (hl : w.heap.size ≤ l) (h1 : W.heap[l]? = some o) (h2 : o.isCells = false) : Kxt B bx W (W.putObj l o') :=
  ⟨Kb.put hB W l o o' hl h1 h2, World.putObj_heap_other (by omega)⟩

theorem back_in (n : Nat) (A : Option Addr) (N c : Nat) (w : World) :
    CallsIn Fence.wide n Try.prog 88 #[.slice A N c] w fun e w' => e = .returned (.func (.func 96) #[] #[.pointer (some ⟨w.heap.size, 0, none⟩)]) ∧
      w' = w.alloc (.cells #[.slice A N c] 22) := by
  refine callsIn_of_wp Try.func88 rfl trivial ?_ rfl
  simp only [Try.ntmps88, List.size_toArray, List.length_cons, List.length_nil, Nat.reduceAdd, Nat.reduceSub, Array.replicate_succ, Array.replicate_zero, List.push_toArray, List.append_toArray, List.nil_append, List.cons_append]
  gi_wp2
  go_ret
  exact ⟨rfl, rfl⟩

set_option maxRecDepth 100000 in
set_option maxHeartbeats 1000000 in
theorem back1_in (n : Nat) (hn : 1 ≤ n) (B bx : Nat) (ls : Lv) (hl : ls.length ≤ 1000000) (w : World) (hB : B ≤ w.heap.size) (A : Option Addr) (c : Nat) (h : Reads w B (.slice A ls.length c) ls)
    (hbx : w.heap[bx]? = some (.cells #[.slice A ls.length c] 22)) :
    SeqN Fence.wide n Try.prog 96 #[.pointer (some ⟨bx, 0, none⟩)] encY (PxBt B ls) (Kxt B bx) (fun m => m = ls.length) w := by
  intro l J Jx W hW hJ hJx hY hJ0
  have hL := h.below (hW.mono hB)
  have hbb : W.heap[bx]? = some (.cells #[.slice A ls.length c] 22) := (hW.block bx (lt_of hbx)).trans hbx
  have hcell : W.cell? ⟨bx, 0, none⟩ = some (.slice A ls.length c) := by simp [World.cell?, hbb]
  have hbl : bx < W.heap.size := Nat.lt_of_lt_of_le (lt_of hbx) hW.size
  obtain ⟨N, hN⟩ : ∃ N, ls.length = N := ⟨_, rfl⟩
  rw [hN] at hcell hl hL hbb ⊢
  have HN := Lib.hid hN
  have HJ := Lib.hid hJ
  have HY := Lib.hid hY
  have HL := Lib.hid hL
  have HW := Lib.hid hW
  have HBB := Lib.hid hbb
  have hNi : (0 : Int) ≤ (N : Int) := by omega
  clear hJ hJx hY h hL hbx hN hW hbb
  refine callsIn_of_wp Try.func96 rfl trivial ?_ rfl
  simp only [Try.ntmps96, List.size_toArray, List.length_cons, List.length_nil, Nat.reduceAdd, Nat.reduceSub, Array.replicate_succ, Array.replicate_zero, List.push_toArray, List.append_toArray, List.nil_append, List.cons_append]
  gi_wp2
  gi_loopw [3] (fun p wr => ∃ j : Nat, p = .int .i64 ((N : Int) - 1 - (j : Int)) ∧ j ≤ N ∧ J j wr ∧ Kxt B bx W wr) (fun p _ => (intOf p + 1).toNat)
  case atStart => exact ⟨0, by go_num, Nat.zero_le _, hJ0, Kxt.refl _ _ _⟩
  case round =>
    obtain ⟨j, rfl, hle, hJs, hK⟩ := hrel
    have hsz : B ≤ wr.heap.size := Nat.le_trans hB (Nat.le_trans HW.out.size hK.1.size)
    have hbr := hK.2.trans HBB.out
    have hcr : wr.cell? ⟨bx, 0, none⟩ = some (.slice A N c) := by simp [World.cell?, hbr]
    have hbs2 : bx < wr.heap.size := lt_of hbr
    clear hbr hcell
    by_cases hlt : j < N
    · have hjl : N - 1 - j < ls.length := by rw [HN.out]; omega
      have hLr : Reads wr B (.slice A N c) ls := HL.out.keep hK.1.block
      obtain ⟨b, off, rfl, hb, -, hc⟩ := hLr.at (by omega)
      obtain ⟨Ai, ci, q0, -, -, hLi⟩ := hc (N - 1 - j) hjl
      have hbs : b < wr.heap.size := by omega
      obtain ⟨fn, tmps, assign, body, hy, hR⟩ := HY.out j ⟨N - 1 - j, Ai, ls[N - 1 - j].length, ci⟩ wr hJs ⟨by rw [HN.out]; exact hlt, by rw [HN.out], by rw [HN.out, lev_lt hjl], by rw [HN.out, lev_lt hjl]; exact hLi⟩
      generalize ls[N - 1 - j].length = m at *
      dsimp only [encY] at hy
      have HKK := Lib.hid hK
      obtain ⟨i, hi⟩ : ∃ i, N - 1 - j = i := ⟨_, rfl⟩
      rw [hi] at hy q0
      have hi2 : (N : Int) - 1 - (j : Int) = (i : Int) := by omega
      rw [hi2]
      have hi3 : i < N := by omega
      have hi4 : (i : Int) - 1 = (N : Int) - 1 - ((j + 1 : Nat) : Int) := by omega
      have HI4 := Lib.hid hi4
      clear hc hLi hLr hJ0 hK hi hi4 hjl hi2
      gi_wp2
      refine hR.mono ?_
      rintro e W3 (⟨rfl, hJ3, hk3⟩ | ⟨rfl, hJx3⟩)
      · gi_wp2
        go_roundw
        case rel => exact ⟨j + 1, by rw [← HI4.out], hlt, hJ3, HKK.out.trans hk3⟩
        case measure => simp [intOf] <;> omega
      · gi_wp2
        refine bodyPost_ret (results_none rfl _ _ _) rfl ?_
        exact ⟨⟨_, rfl⟩, .inr ⟨_, hJx3⟩⟩
    · have e : j = N := by omega
      subst e
      gi_wp2
      refine bodyPost_end (results_none rfl _ _ _) rfl ?_
      exact ⟨⟨_, rfl⟩, .inl ⟨j, rfl, hJs⟩⟩

end Go.Proofs.Ytmdknedngiggdaa
end
section
/- The contract of check.inTurn. -/
namespace Go.Proofs.Ytmdknedngiggdaa
open Go.RowKit Go.Shelf Go.Proofs.Rw Go.Proofs.Lh Go.Proofs.Rn

attribute [local go_sem] Oper.semAt_some

theorem drop_step {ls : Lv} {j : Nat} (hj : j < ls.length) : allOf (ls.drop (ls.length - (j + 1))) = allOf (ls.drop (ls.length - j)) ++ lev ls (ls.length - 1 - j) := by
  rw [show ls.length - j = ls.length - (j + 1) + 1 by omega, allOf_drop (by omega), show ls.length - 1 - j = ls.length - (j + 1) by omega]
theorem drop_zero (ls : Lv) : allOf (ls.drop (ls.length - 0)) = [] := by rw [Nat.sub_zero, List.drop_length]; rfl
theorem drop_end (ls : Lv) : allOf (ls.drop (ls.length - ls.length)) = allOf ls := by rw [Nat.sub_self, List.drop_zero]

/-- How things stand within a round: W is where it began. -/
structure TS (w W wr : World) (P : List Sp) : Prop where
  turn : inTurn 0 P = true
  res : Boxed wr (w.heap.size + 1) 4 (.bool false)
  wk : Boxed wr (w.heap.size + 1 + 1) 137 (.int .u64 (behind P : Nat))
  bel : Below w.heap.size w wr
  kf : KeepsFrom (w.heap.size + 4) W wr
  kx : Kxt w.heap.size (w.heap.size + 1 + 1 + 1) W wr
theorem keeps_alloc {B : Nat} {W X : World} (h : KeepsFrom B W X) (o : Obj) : KeepsFrom B W (X.alloc o) :=
  KeepsFrom.trans h ⟨by simp, fun k o' _ hk _ => (Below.heap_alloc _ _ _ (lt_of hk)).trans hk⟩
theorem TS.next {w W wr : World} {P : List Sp} (h : TS w W wr P) (hx : w.heap.size + 1 + 1 + 1 < wr.heap.size) (t0 t1 : Nat) (o1 o2 : Obj) (hn : nextB (behind P) (t0, t1) = true) :
    TS w W (((wr.alloc o1).setCell ⟨w.heap.size + 1 + 1, 0, none⟩ (.int .u64 (t1 : Int))).alloc o2) (P ++ [(t0, t1)]) := by
  refine ⟨by rw [turn_snoc h.turn, hn], ?_, ?_, ?_, ?_, ?_⟩
  · refine Boxed.alloc ?_ o2
    refine (Below.heap_setCell _ _ _ _ (show w.heap.size + 1 ≠ w.heap.size + 1 + 1 by omega)).trans (h.res.alloc o1)
  · refine Boxed.alloc ?_ o2
    rw [behind_snoc]
    exact (h.wk.alloc o1).set _
  · exact ((h.bel.alloc h.bel.size _).setCell (p := ⟨w.heap.size + 1 + 1, 0, none⟩) (by simp; omega) _).alloc (by have := h.bel.size; simp [World.setCell]; omega) _
  · refine keeps_alloc (KeepsFrom.trans (keeps_alloc h.kf o1) ((KeepsOthers.setCell _ _ _).from _)) o2
  · refine h.kx.trans ⟨⟨by simp [World.setCell]; omega, fun b hb => ?_⟩, ?_⟩
    · rw [Below.heap_alloc _ _ _ (by simp [World.setCell]; omega), Below.heap_setCell _ _ _ _ (by simp; omega), Below.heap_alloc _ _ _ (by omega)]
    · rw [Below.heap_alloc _ _ _ (by simp [World.setCell]; omega), Below.heap_setCell _ _ _ _ (by simp), Below.heap_alloc _ _ _ (by omega)]
theorem TS.no {w W wr : World} {P : List Sp} (h : TS w W wr P) (hx : w.heap.size + 1 + 1 + 1 < wr.heap.size) (t1 : Nat) (o1 o2 : Obj) :
    Boxed (((wr.alloc o1).setCell ⟨w.heap.size + 1 + 1, 0, none⟩ (.int .u64 (t1 : Int))).alloc o2) (w.heap.size + 1) 4 (.bool false) ∧
    Below w.heap.size w (((wr.alloc o1).setCell ⟨w.heap.size + 1 + 1, 0, none⟩ (.int .u64 (t1 : Int))).alloc o2) ∧
    KeepsFrom (w.heap.size + 4) W (((wr.alloc o1).setCell ⟨w.heap.size + 1 + 1, 0, none⟩ (.int .u64 (t1 : Int))).alloc o2) := by
  refine ⟨?_, ?_, ?_⟩
  · refine Boxed.alloc ?_ o2
    refine (Below.heap_setCell _ _ _ _ (show w.heap.size + 1 ≠ w.heap.size + 1 + 1 by omega)).trans (h.res.alloc o1)
  · exact ((h.bel.alloc h.bel.size _).setCell (p := ⟨w.heap.size + 1 + 1, 0, none⟩) (by simp; omega) _).alloc (by have := h.bel.size; simp [World.setCell]; omega) _
  · refine keeps_alloc (KeepsFrom.trans (keeps_alloc h.kf o1) ((KeepsOthers.setCell _ _ _).from _)) o2

set_option maxRecDepth 100000 in
set_option maxHeartbeats 4000000 in
theorem inTurnR_in (n : Nat) (hn : 3 ≤ n) (k g : Int) (ls : Lv) (hl : ls.length ≤ 1000000) (hlv : ∀ i, (lev ls i).length ≤ 1000000) (w : World) (A : Option Addr) (c : Nat) (h : Reads w w.heap.size (.slice A ls.length c) ls) :
    CallsIn Fence.wide n Try.prog 73 #[hv k g (.slice A ls.length c)] w fun e w' => e = .returned (.bool (inTurn 0 (allOf ls))) ∧ Below w.heap.size w w' := by
  have h1 : 1 ≤ n := by omega
  have HL := Lib.hid h
  have HLV := Lib.hid hlv
  clear h hlv
  obtain ⟨N, hN⟩ : ∃ N, ls.length = N := ⟨_, rfl⟩
  rw [hN] at hl ⊢
  have HN := Lib.hid hN
  clear hN
  refine callsIn_of_wp_marks Try.func73 rfl trivial ?_ rfl
  simp only [Try.ntmps73, List.size_toArray, List.length_cons, List.length_nil, Nat.reduceAdd, Nat.reduceSub, Array.replicate_succ, Array.replicate_zero, List.push_toArray, List.append_toArray, List.nil_append, List.cons_append]
  gi_wp2_with (refine ⟨trivial, ?_⟩; gi_at_call 88; refine (back_in (n - 1) A N c _).mono ?_; rintro e w' ⟨rfl, rfl⟩)
  obtain ⟨W3, hW3, hsz, p0, p1, p2, p3, hB3⟩ := heap_four w (.cells #[.int .i64 k, .int .i64 g, .slice A N c] 30) (.cells #[.bool false] 4) (.cells #[.int .u64 0] 137) (.cells #[.slice A N c] 22)
  rw [← hW3]
  have hL3 : Reads W3 w.heap.size (.slice A ls.length c) ls := HL.out.below hB3
  have seq := back1_in (n - 1) (by omega) w.heap.size (w.heap.size + 1 + 1 + 1) ls (by have := HN.out; omega) W3 (by omega) A c hL3 (by rw [HN.out]; exact p3)
  have hlev := HN.out
  refine range_n rfl h1 (gf := 96) (lb := #[.pointer (some ⟨w.heap.size + 1 + 1 + 1, 0, none⟩)]) rfl trivial (enters_of Try.func96 (by kernel_rfl) rfl)
    seq (fun h k => h.trans k) (Kxt.put (by omega) (by omega)) (PxBt.put (by omega)) (Below.refl _ _) (fun _ => rfl)
    (fun j W => inTurn 0 (allOf (ls.drop (ls.length - j))) = true ∧ Boxed W (w.heap.size + 1) 4 (.bool false) ∧ Boxed W (w.heap.size + 1 + 1) 137 (.int .u64 (behind (allOf (ls.drop (ls.length - j))) : Nat)) ∧ Below w.heap.size w W ∧ w.heap.size + 1 + 1 + 1 < W.heap.size)
    (fun cd _ W => cd = .ret ∧ inTurn 0 (allOf ls) = false ∧ Boxed W (w.heap.size + 1) 4 (.bool false) ∧ Below w.heap.size w W)
    (fun j W W' row hs hg hr => ⟨hs.1, hs.2.1.kept hg (fun e => by have := (hr _ e.symm).1; omega), hs.2.2.1.kept hg (fun e => by have := (hr _ e.symm).1; omega), hs.2.2.2.1.grown hg hs.2.2.2.1.size (fun j e => by have := (hr j e).1; omega), Nat.lt_of_lt_of_le hs.2.2.2.2 hg.size⟩)
    (fun cd j W W' row hs hg hr => ⟨hs.1, hs.2.1, hs.2.2.1.kept hg (fun e => by have := (hr _ e.symm).1; omega), hs.2.2.2.grown hg hs.2.2.2.size (fun j e => by have := (hr j e).1; omega)⟩)
    ⟨by rw [drop_zero]; rfl, p1, by rw [drop_zero]; exact p2, hB3, by omega⟩
    (fun x => { tmps := #[hv k g (.slice A N c), .pointer (some ⟨w.heap.size, 0, none⟩), .pointer (some ⟨w.heap.size + 1, 0, none⟩), .pointer (some ⟨w.heap.size + 1 + 1, 0, none⟩), undef, .slice x.A x.n x.c, undef, undef, .pointer (some ⟨w.heap.size, 2, none⟩), .slice A N c,
      .func (.func 96) #[] #[.pointer (some ⟨w.heap.size + 1 + 1 + 1, 0, none⟩)], .int .i64 (x.i : Int), .slice x.A x.n x.c, undef, undef, undef, undef, undef, undef, undef, undef, undef, undef], defers := [] }) ?assign ?body ?done ?stop
  case assign =>
    intro l x W K hK
    gi_wp2
    exact hK
  case body =>
    rintro l j x W ⟨hT, hr, hwk, hB, hsz3⟩ ⟨hj, hx1, hx2, hx3⟩
    have hstep := drop_step hj
    obtain ⟨suf, hsuf⟩ := allOf_pre ls (ls.length - (j + 1))
    rw [hstep] at hsuf
    have hm6 := HLV.out (ls.length - 1 - j)
    generalize allOf (ls.drop (ls.length - j)) = P at *
    generalize lev ls (ls.length - 1 - j) = L at *
    rw [hx2] at hx3
    rw [hx2]
    generalize x.A = Ax at *
    generalize x.c = cx at *
    generalize x.i = xi at *
    have ts0 : TS w W W P := ⟨hT, hr, hwk, hB, ⟨Nat.le_refl _, fun _ _ _ hk _ => hk⟩, Kxt.refl _ _ _⟩
    obtain ⟨m, hm⟩ : ∃ m, L.length = m := ⟨_, rfl⟩
    rw [hm] at hx3 hm6 ⊢
    have HT0 := Lib.hid ts0
    have HX3 := Lib.hid hx3
    have HM := Lib.hid hm
    have HS := Lib.hid hsuf
    have HSZ := Lib.hid hsz
    have HST := Lib.hid hstep
    clear hT hr hwk hx1 hx2 hx3 ts0 hstep hsuf hm seq p0 p1 p2 p3 hL3 hj hW3 hB3 hB hsz
    gi_wp2
    gi_loopw [15] (fun p wr => ∃ i : Nat, p = .int .i64 (i : Int) ∧ i ≤ m ∧ Hid (TS w W wr (P ++ L.take i)) ∧ w.heap.size + 1 + 1 + 1 < wr.heap.size) (fun p _ => m - (intOf p).toNat)
    case atStart => exact ⟨0, rfl, Nat.zero_le _, Lib.hid (by rw [List.take_zero, List.append_nil]; exact HT0.out), hsz3⟩
    case round =>
      obtain ⟨i, rfl, him, HTS, hszr⟩ := hrel
      by_cases hlt : i < m
      · have hil : i < L.length := by rw [HM.out]; exact hlt
        obtain ⟨b2, off2, rfl, hb2, -, hc2⟩ := sp_at (HX3.out.keep HTS.out.kx.1.block) (by omega)
        obtain ⟨e0, e1⟩ := hc2 i hil
        obtain ⟨y, hy⟩ : ∃ y, L[i] = y := ⟨_, rfl⟩
        rw [hy] at e0 e1
        have htk : P ++ L.take (i + 1) = (P ++ L.take i) ++ [y] := by rw [List.take_succ_eq_append_getElem hil, hy, List.append_assoc]
        obtain ⟨t0, t1⟩ := y
        dsimp only at e0 e1
        generalize P ++ L.take i = Q at *
        have hbb : b2 < wr.heap.size := by omega
        have hnx := wnext_any (behind Q) t0 t1 (w.heap.size + 1 + 1) (wr.alloc (.cells #[.int .u64 (t0 : Int), .int .u64 (t1 : Int)] 73)) (HTS.out.wk.alloc _)
        obtain ⟨q, hq⟩ : ∃ q, nextB (behind Q) (t0, t1) = q := ⟨_, rfl⟩
        rw [hq] at hnx
        have HNX := Lib.hid hnx
        have HQ := Lib.hid hq
        have HTK := Lib.hid htk
        clear hnx hq htk hc2 hy hil
        cases q with
        | true =>
          gi_wp2_with (refine ⟨trivial, fun _ => (by omega), ?_⟩; refine (callsIn_round l (callsIn_wide.2 HNX.out)).mono ?_; rintro e w' ⟨rfl, rfl⟩)
          go_roundw
          case rel => exact ⟨i + 1, by go_num, hlt, Lib.hid (by rw [HTK.out]; exact HTS.out.next hszr t0 t1 _ _ HQ.out), by simp [World.setCell]; omega⟩
          case measure => simp [intOf]; omega
        | false =>
          obtain ⟨n1, n2, n3⟩ := HTS.out.no hszr t1 (.cells #[.int .u64 (t0 : Int), .int .u64 (t1 : Int)] 73) (.cells #[.int .u64 (t0 : Int), .int .u64 (t1 : Int)] 73)
          obtain ⟨W9, hW9⟩ : ∃ X, (((wr.alloc (.cells #[.int .u64 (t0 : Int), .int .u64 (t1 : Int)] 73)).setCell ⟨w.heap.size + 1 + 1, 0, none⟩ (.int .u64 (t1 : Int))).alloc (.cells #[.int .u64 (t0 : Int), .int .u64 (t1 : Int)] 73)) = X := ⟨_, rfl⟩
          rw [hW9] at n1 n2 n3 HNX
          have hrc := n1.cell
          have hrf := n1.frozen
          have N1 := Lib.hid n1
          have N2 := Lib.hid n2
          have N3 := Lib.hid n3
          have HW9 := Lib.hid hW9
          clear n1 n2 n3 hW9
          gi_wp2_with (refine ⟨trivial, fun _ => (by omega), ?_⟩; refine (callsIn_round l (callsIn_wide.2 HNX.out)).mono ?_; rintro e w' ⟨rfl, rfl⟩)
          refine ⟨KeepsFrom.trans (by rw [HSZ.out]; exact N3.out) ((KeepsOthers.setCell _ _ _).from _), rfl, ?_, N1.out.set _, N2.out.setCell (p := ⟨w.heap.size + 1, 0, none⟩) (by simp) _⟩
          rw [HS.out]
          have e9 : P ++ L ++ suf = (Q ++ [(t0, t1)]) ++ (L.drop (i + 1) ++ suf) := by
            rw [← HTK.out]
            rw [List.append_assoc, List.append_assoc, ← List.append_assoc (L.take (i + 1)), List.take_append_drop]
          rw [e9]
          exact turn_pre (by rw [turn_snoc HTS.out.turn, HQ.out])
      · have e : i = m := by omega
        subst e
        gi_wp2
        have hTS := HTS.out
        rw [show L.take i = L by rw [← HM.out, List.take_length]] at hTS
        exact ⟨by rw [HSZ.out]; exact hTS.kf, hTS.kx, by rw [HST.out]; exact hTS.turn, hTS.res, by rw [HST.out]; exact hTS.wk, hTS.bel, hszr⟩
  case done =>
    rintro D _ W hD rfl ⟨hT, hr, hwk, hB, hsz3⟩ hK
    rw [drop_end] at hT
    have hrc := hr.cell
    have hrf := hr.frozen
    have hne : w.heap.size + 1 ≠ D := by omega
    have hK2 : (W.setCell ⟨w.heap.size + 1, 0, none⟩ (.bool true)).heap[D]? = some (.deferred (some [])) := (Below.heap_setCell _ _ _ _ (Ne.symm hne)).trans hK
    have hr2 : Boxed ((W.setCell ⟨w.heap.size + 1, 0, none⟩ (.bool true)).putObj D (.deferred none)) (w.heap.size + 1) 4 (.bool true) := (World.putObj_heap_other hne).trans (hr.set _)
    have HA2 := Lib.hid hT
    clear hT hwk
    gi_wp2
    refine ⟨by simp, .inl ⟨_, _, rfl, run_takeDeferred hK2, ?_⟩⟩
    refine ⟨.bool true, by simp [results, Try.results73, go_sem, hr2.cell], by rw [HA2.out], ?_⟩
    exact (hB.setCell (p := ⟨w.heap.size + 1, 0, none⟩) (by simp) _).trans (belowK_b (w := w) (Nat.le_refl _) _ D _ _ (by omega) hK2 rfl rfl)
  case stop =>
    rintro D c j W hD ⟨rfl, hall, hr, hB⟩ hK
    have hne : w.heap.size + 1 ≠ D := by omega
    have hr2 : Boxed (W.putObj D (.deferred none)) (w.heap.size + 1) 4 (.bool false) := (World.putObj_heap_other hne).trans hr
    have HA2 := Lib.hid hall
    clear hall
    gi_wp2
    refine ⟨by simp, .inl ⟨_, _, rfl, run_takeDeferred hK, ?_⟩⟩
    refine ⟨.bool false, by simp [results, Try.results73, go_sem, hr2.cell], by rw [HA2.out], ?_⟩
    exact hB.trans (belowK_b (w := w) (Nat.le_refl _) _ D _ _ (by omega) hK rfl rfl)

theorem inTurn_any (k g : Int) (ls : Lv) (hl : ls.length ≤ 1000000) (hlv : ∀ i, (lev ls i).length ≤ 1000000) (w : World) (A : Option Addr) (c : Nat) (h : Reads w w.heap.size (.slice A ls.length c) ls) :
    Calls Try.prog 73 #[hv k g (.slice A ls.length c)] w fun e w' => e = .returned (.bool (inTurn 0 (allOf ls))) ∧ Below w.heap.size w w' :=
  (callsIn_wide (n := 3)).1 (inTurnR_in 3 (by omega) k g ls hl hlv w A c h)

end Go.Proofs.Ytmdknedngiggdaa
end
