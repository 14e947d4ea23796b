/- Plain mathematics of levels: a line of buckets, pairs that go, and what stays. -/
namespace Go.Proofs.Lm

abbrev Sp := Nat × Nat

/-- The bucket at a place of a line: those that are listed, and then such of one tick. -/
def el (xs : List Sp) (t i : Nat) : Sp := xs[i]?.getD (t, t)
/-- How many pairs go, of n and many more, where room is for room of them. -/
def pairs (n many room : Nat) : Nat := (n + many - room + 1) / 2
/-- How many of these have one of the n. -/
def wentN (n many room : Nat) : Nat := min (pairs n many room) ((n + 1) / 2)
def stayN (n many room : Nat) : Nat := n + many - 2 * pairs n many room
def leftN (n many room : Nat) : Nat := pairs n many room - wentN n many room
/-- The pair i, as one bucket. -/
def two (xs : List Sp) (t i : Nat) : Sp := ((el xs t (2 * i)).1, (el xs t (2 * i + 1)).2)
def went (xs : List Sp) (t many room : Nat) : List Sp := (List.range (wentN xs.length many room)).map (two xs t)
def stay (xs : List Sp) (t many room : Nat) : List Sp := (List.range (stayN xs.length many room)).map fun i => el xs t (2 * pairs xs.length many room + i)

theorem went_len (xs : List Sp) (t many room : Nat) : (went xs t many room).length = wentN xs.length many room := by simp [went]
theorem stay_len (xs : List Sp) (t many room : Nat) : (stay xs t many room).length = stayN xs.length many room := by simp [stay]

theorem el_lt {xs : List Sp} {t i : Nat} (h : i < xs.length) : el xs t i = xs[i] := by simp [el, h]
theorem el_ge {xs : List Sp} {t i : Nat} (h : xs.length ≤ i) : el xs t i = (t, t) := by simp [el, h]
theorem two_ge {xs : List Sp} {t i : Nat} (h : xs.length ≤ 2 * i) : two xs t i = (t, t) := by
  unfold two
  rw [el_ge (by omega), el_ge (by omega)]

/-! ### How many -/

theorem pairs_le {n many room : Nat} (h : 1 ≤ room) : 2 * pairs n many room ≤ n + many := by unfold pairs; omega
theorem stayN_le {n many room : Nat} : stayN n many room ≤ room := by unfold stayN pairs; omega
theorem wentN_le (n many room : Nat) : wentN n many room ≤ pairs n many room := Nat.min_le_left _ _
theorem wentN_half (n many room : Nat) : wentN n many room ≤ (n + 1) / 2 := Nat.min_le_right _ _
theorem leftN_le (n many room : Nat) (h : 1 ≤ room) : 2 * leftN n many room ≤ many := by
  unfold leftN wentN pairs
  omega
theorem sums (n many room : Nat) (h : 1 ≤ room) : 2 * (wentN n many room + leftN n many room) + stayN n many room = n + many := by
  unfold leftN stayN wentN pairs
  omega
theorem least (n many room : Nat) (h : 1 ≤ room) (hw : wentN n many room + leftN n many room ≠ 0) : room - 1 ≤ stayN n many room := by
  unfold leftN stayN wentN pairs at *
  omega
/-- What 'settle' tells, two times, one behind the other. -/
theorem settle_sum (n many room a fit over stay1 fit2 over2 : Nat) (hr : 1 ≤ room) (h1 : fit = min n room) (h2 : over = n - fit) (h3 : stay1 = fit - over % 2) (h4 : fit2 = min many (room - stay1)) (h5 : over2 = many - fit2)
    (ha : a = (over / 2 + over % 2) + (over2 / 2 + over2 % 2)) : a = pairs n many room ∧ stay1 + fit2 - over2 % 2 = stayN n many room := by
  unfold stayN pairs
  omega

/-! ### The program's own way: pairs and what stays are told one behind the other, and no further than the list -/

theorem stay_told {xs : List Sp} {t many room i : Nat} : el xs t (2 * wentN xs.length many room + i) = el xs t (2 * pairs xs.length many room + i) := by
  have h1 := wentN_le xs.length many room
  have h2 := wentN_half xs.length many room
  rcases Nat.lt_or_ge (2 * wentN xs.length many room) xs.length with h | h
  · have : wentN xs.length many room = pairs xs.length many room := by
      have : wentN xs.length many room = min (pairs xs.length many room) ((xs.length + 1) / 2) := rfl
      omega
    rw [this]
  · rw [el_ge (i := 2 * pairs xs.length many room + i) (by omega), el_ge (by omega)]

/-- What goes, with those of one tick behind it. -/
theorem went_full (xs : List Sp) (t many room : Nat) : went xs t many room ++ List.replicate (leftN xs.length many room) (t, t) = (List.range (pairs xs.length many room)).map (two xs t) := by
  have h1 := wentN_le xs.length many room
  apply List.ext_getElem
  · simp only [List.length_append, went_len, List.length_replicate, List.length_map, List.length_range]
    unfold leftN
    omega
  · intro i hi1 hi2
    simp only [List.getElem_map, List.getElem_range, went]
    rw [List.getElem_append]
    split
    · simp
    · rename_i h
      simp only [List.length_map, List.length_range] at h
      simp only [List.length_map, List.length_range] at hi2
      have hw : wentN xs.length many room = min (pairs xs.length many room) ((xs.length + 1) / 2) := rfl
      rw [List.getElem_replicate, two_ge (by omega)]

/-! ### One by one -/

def one (l : List Sp) (most : Nat) (s : Sp) : List Sp × List Sp :=
  if (l ++ [s]).length ≤ most then (l ++ [s], []) else ((l ++ [s]).drop 2, [(((l ++ [s])[0]?.getD (0, 0)).1, ((l ++ [s])[1]?.getD (0, 0)).2)])

/-- What stays, and what went, of a line's first n. -/
def stayTo (xs : List Sp) (t n room : Nat) : List Sp := (List.range (n - 2 * ((n - room + 1) / 2))).map fun i => el xs t (2 * ((n - room + 1) / 2) + i)
def wentTo (xs : List Sp) (t n room : Nat) : List Sp := (List.range ((n - room + 1) / 2)).map (two xs t)

theorem stayTo_all (xs : List Sp) (t many room : Nat) : stayTo xs t (xs.length + many) room = stay xs t many room := rfl
theorem wentTo_all (xs : List Sp) (t many room : Nat) : wentTo xs t (xs.length + many) room = went xs t many room ++ List.replicate (leftN xs.length many room) (t, t) := (went_full xs t many room).symm
theorem stayTo_first (l ys : List Sp) (t room : Nat) (h : l.length ≤ room) : stayTo (l ++ ys) t l.length room = l := by
  have e : (l.length - room + 1) / 2 = 0 := by omega
  unfold stayTo
  rw [e]
  apply List.ext_getElem
  · simp
  · intro i h1 h2
    simp [el, List.getElem?_append_left h2, h2]
theorem wentTo_first (xs : List Sp) (t n room : Nat) (h : n ≤ room) : wentTo xs t n room = [] := by
  have e : (n - room + 1) / 2 = 0 := by omega
  unfold wentTo
  rw [e]
  rfl
theorem range_snoc (f : Nat → Sp) (n : Nat) : (List.range (n + 1)).map f = (List.range n).map f ++ [f n] := by rw [List.range_succ, List.map_append]; rfl
theorem range_drop2 (f : Nat → Sp) (n : Nat) : ((List.range (n + 2)).map f).drop 2 = (List.range n).map fun i => f (2 + i) := by
  apply List.ext_getElem
  · simp
  · intro i h1 h2
    simp [Nat.add_comm 2 i]
theorem one_step (xs : List Sp) (t n room : Nat) (hr : 1 ≤ room) : one (stayTo xs t n room) room (el xs t n) = (stayTo xs t (n + 1) room, (wentTo xs t (n + 1) room).drop (wentTo xs t n room).length) ∧ wentTo xs t (n + 1) room = wentTo xs t n room ++ (one (stayTo xs t n room) room (el xs t n)).2 := by
  obtain ⟨p, hp⟩ : ∃ p, (n - room + 1) / 2 = p := ⟨_, rfl⟩
  obtain ⟨q, hq⟩ : ∃ q, (n + 1 - room + 1) / 2 = q := ⟨_, rfl⟩
  have hs : stayTo xs t n room ++ [el xs t n] = (List.range (n - 2 * p + 1)).map fun i => el xs t (2 * p + i) := by
    unfold stayTo
    rw [hp, range_snoc, show 2 * p + (n - 2 * p) = n by omega]
  have hw : wentTo xs t n room = (List.range p).map (two xs t) := by unfold wentTo; rw [hp]
  unfold one
  rw [hs, hw]
  by_cases h : n - 2 * p + 1 ≤ room
  · have e : q = p := by omega
    rw [if_pos (by simpa using h)]
    unfold stayTo wentTo
    rw [hq, e, show n + 1 - 2 * p = n - 2 * p + 1 by omega]
    simp
  · have e : q = p + 1 := by omega
    rw [if_neg (by simpa using h)]
    obtain ⟨m, hm⟩ : ∃ m, n - 2 * p + 1 = m + 2 := ⟨n - 2 * p - 1, by omega⟩
    unfold stayTo wentTo
    rw [hq, e, show n + 1 - 2 * (p + 1) = m by omega, hm, range_drop2, range_snoc (two xs t) p]
    have e2 : ∀ i, 2 * p + (2 + i) = 2 * (p + 1) + i := by intro i; omega
    have e3 : ((List.range (m + 2)).map fun i => el xs t (2 * p + i))[0]?.getD (0, 0) = el xs t (2 * p) := by simp
    have e4 : ((List.range (m + 2)).map fun i => el xs t (2 * p + i))[1]?.getD (0, 0) = el xs t (2 * p + 1) := by simp
    rw [e3, e4]
    simp only [e2]
    constructor
    · simp [two]
    · simp [two]

/-! ### In two -/

theorem el_stay (xs : List Sp) (t x room i : Nat) (hr : 1 ≤ room) : el (stay xs t x room) t i = el xs t (2 * pairs xs.length x room + i) := by
  have hp := pairs_le (n := xs.length) (many := x) hr
  rcases Nat.lt_or_ge i (stayN xs.length x room) with h | h
  · rw [el_lt (by rw [stay_len]; exact h)]
    simp [stay]
  · rw [el_ge (by rw [stay_len]; exact h), el_ge (by unfold stayN at h; omega)]
theorem two_stay (xs : List Sp) (t x room i : Nat) (hr : 1 ≤ room) : two (stay xs t x room) t i = two xs t (pairs xs.length x room + i) := by
  unfold two
  rw [el_stay _ _ _ _ _ hr, el_stay _ _ _ _ _ hr, show 2 * pairs xs.length x room + 2 * i = 2 * (pairs xs.length x room + i) by omega, show 2 * pairs xs.length x room + (2 * i + 1) = 2 * (pairs xs.length x room + i) + 1 by omega]
theorem pairs_twice (n x y room : Nat) (hr : 1 ≤ room) : pairs n (x + y) room = pairs n x room + pairs (stayN n x room) y room := by
  unfold stayN pairs
  omega
theorem twice_stay (xs : List Sp) (t x y room : Nat) (hr : 1 ≤ room) : stay (stay xs t x room) t y room = stay xs t (x + y) room := by
  have hp := pairs_le (n := xs.length) (many := x) hr
  have h2 := pairs_twice xs.length x y room hr
  apply List.ext_getElem
  · rw [stay_len, stay_len, stay_len]
    have e : stayN xs.length x room = xs.length + x - 2 * pairs xs.length x room := rfl
    show stayN xs.length x room + y - 2 * pairs (stayN xs.length x room) y room = xs.length + (x + y) - 2 * pairs xs.length (x + y) room
    omega
  · intro i h1 h3
    have : (stay (stay xs t x room) t y room)[i] = el (stay xs t x room) t (2 * pairs (stay xs t x room).length y room + i) := by simp [stay]
    rw [this, el_stay _ _ _ _ _ hr, stay_len]
    have : (stay xs t (x + y) room)[i] = el xs t (2 * pairs xs.length (x + y) room + i) := by simp [stay]
    rw [this, h2]
    congr 1
    omega
theorem twice_went (xs : List Sp) (t x y room : Nat) (hr : 1 ≤ room) : (went xs t x room ++ List.replicate (leftN xs.length x room) (t, t)) ++ (went (stay xs t x room) t y room ++ List.replicate (leftN (stay xs t x room).length y room) (t, t)) = went xs t (x + y) room ++ List.replicate (leftN xs.length (x + y) room) (t, t) := by
  rw [went_full, went_full, went_full, stay_len, pairs_twice _ _ _ _ hr]
  apply List.ext_getElem
  · simp
  · intro i h1 h2
    rw [List.getElem_append]
    split
    · simp
    · rename_i h
      simp only [List.length_map, List.length_range] at h
      simp only [List.getElem_map, List.getElem_range, List.length_map, List.length_range]
      rw [two_stay _ _ _ _ _ hr]
      congr 1
      omega

/-! ### In turn -/

/-- Buckets that stand in turn. -/
def Turn (xs : List Sp) : Prop := (∀ x ∈ xs, x.1 ≤ x.2) ∧ xs.Pairwise fun x y => x.2 ≤ y.1

theorem Turn.nil : Turn [] := ⟨by simp, by simp⟩
theorem Turn.snoc {xs : List Sp} {x : Sp} {t : Nat} (h : Turn xs) (ht : ∀ y ∈ xs, y.2 ≤ t) (hx : t ≤ x.1) (h1 : x.1 ≤ x.2) : Turn (xs ++ [x]) := by
  refine ⟨?_, ?_⟩
  · intro y hy
    rcases List.mem_append.1 hy with hy | hy
    · exact h.1 y hy
    · rw [List.mem_singleton.1 hy]; exact h1
  · rw [List.pairwise_append]
    refine ⟨h.2, by simp, fun a ha b hb => ?_⟩
    rw [List.mem_singleton.1 hb]
    exact Nat.le_trans (ht a ha) hx

section
variable {xs : List Sp} {t : Nat} (h : Turn xs) (ht : ∀ y ∈ xs, y.2 ≤ t)
include h ht
omit ht in
theorem el_self (i : Nat) : (el xs t i).1 ≤ (el xs t i).2 := by
  rcases Nat.lt_or_ge i xs.length with hi | hi
  · rw [el_lt hi]; exact h.1 _ (List.getElem_mem hi)
  · rw [el_ge hi]; exact Nat.le_refl _
omit h in
theorem el_le (i : Nat) : (el xs t i).2 ≤ t := by
  rcases Nat.lt_or_ge i xs.length with hi | hi
  · rw [el_lt hi]; exact ht _ (List.getElem_mem hi)
  · rw [el_ge hi]; exact Nat.le_refl _
theorem el_turn {i j : Nat} (hij : i < j) : (el xs t i).2 ≤ (el xs t j).1 := by
  rcases Nat.lt_or_ge j xs.length with hj | hj
  · rw [el_lt hj, el_lt (by omega)]
    exact List.pairwise_iff_getElem.1 h.2 i j (by omega) hj hij
  · rw [el_ge hj]
    exact el_le ht i
theorem two_self (i : Nat) : (two xs t i).1 ≤ (two xs t i).2 :=
  Nat.le_trans (el_self h (2 * i)) (Nat.le_trans (el_turn h ht (show 2 * i < 2 * i + 1 by omega)) (el_self h (2 * i + 1)))
theorem whole_turn (many room k : Nat) (hk : k ≤ leftN xs.length many room) : Turn ((went xs t many room ++ List.replicate k (t, t)) ++ stay xs t many room) := by
  have hwm : ∀ x ∈ went xs t many room, ∃ i, i < wentN xs.length many room ∧ x = two xs t i := by
    intro x hx
    simp only [went, List.mem_map, List.mem_range] at hx
    obtain ⟨i, hi, rfl⟩ := hx
    exact ⟨i, hi, rfl⟩
  have hsm : ∀ x ∈ stay xs t many room, ∃ i, x = el xs t (2 * pairs xs.length many room + i) := by
    intro x hx
    simp only [stay, List.mem_map, List.mem_range] at hx
    obtain ⟨i, hi, rfl⟩ := hx
    exact ⟨i, rfl⟩
  have hrm : ∀ x ∈ List.replicate k (t, t), 0 < k ∧ x = (t, t) := by
    intro x hx
    have := List.mem_replicate.1 hx
    exact ⟨by omega, this.2⟩
  have hwl := wentN_le xs.length many room
  refine ⟨?_, ?_⟩
  · intro x hx
    rcases List.mem_append.1 hx with hx | hx
    · rcases List.mem_append.1 hx with hx | hx
      · obtain ⟨i, _, rfl⟩ := hwm x hx
        exact two_self h ht i
      · rw [(hrm x hx).2]; exact Nat.le_refl _
    · obtain ⟨i, rfl⟩ := hsm x hx
      exact el_self h _
  · rw [List.pairwise_append, List.pairwise_append]
    refine ⟨⟨?_, ?_, ?_⟩, ?_, ?_⟩
    · rw [List.pairwise_iff_getElem]
      intro i j hi hj hij
      simp only [went, List.getElem_map, List.getElem_range]
      exact el_turn h ht (show 2 * i + 1 < 2 * j by omega)
    · rw [List.pairwise_iff_getElem]
      intro i j hi hj hij
      simp
    · intro a ha b hb
      obtain ⟨i, _, rfl⟩ := hwm a ha
      rw [(hrm b hb).2]
      exact el_le ht _
    · rw [List.pairwise_iff_getElem]
      intro i j hi hj hij
      simp only [stay, List.getElem_map, List.getElem_range]
      exact el_turn h ht (by omega)
    · intro a ha b hb
      obtain ⟨j, rfl⟩ := hsm b hb
      rcases List.mem_append.1 ha with ha | ha
      · obtain ⟨i, hi, rfl⟩ := hwm a ha
        exact el_turn h ht (show 2 * i + 1 < 2 * pairs xs.length many room + j by omega)
      · obtain ⟨h0, rfl⟩ := hrm a ha
        have : wentN xs.length many room = min (pairs xs.length many room) ((xs.length + 1) / 2) := rfl
        have h3 : 0 < leftN xs.length many room := by omega
        unfold leftN at h3
        rw [el_ge (by omega)]
        exact Nat.le_refl _
end

theorem Turn.at {xs : List Sp} (h : Turn xs) (i : Nat) (hi : i < xs.length) : (xs[i]).1 ≤ (xs[i]).2 := h.1 _ (List.getElem_mem hi)
theorem Turn.next {xs : List Sp} (h : Turn xs) (i : Nat) (hi : i + 1 < xs.length) : (xs[i]).2 ≤ (xs[i + 1]).1 := List.pairwise_iff_getElem.1 h.2 i (i + 1) (by omega) hi (by omega)

end Go.Proofs.Lm
