/- Plain mathematics of levels: a line of buckets, pairs that go, and what stays. · Plain mathematics of histograms: levels of buckets, what comes to them, units, the shape, the turn. · More plain mathematics of histograms: one level of them, how many there are, what Add answers, round by round. · Plain mathematics of buckets that are too old: what is dropped, and what stays. -/
section
/- Plain mathematics of levels: a line of buckets, pairs that go, and what stays. -/
namespace Go.Proofs.Lm

abbrev Sp := Nat × Nat

/-- The bucket at a place of a line: those that are listed, and then such of one tick. -/
def el (xs : List Sp) (t i : Nat) : Sp := xs[i]?.getD (t, t)
/-- How many pairs go, of n and many more, where room is for room of them. -/
def pairs (n many room : Nat) : Nat := (n + many - room + 1) / 2
/-- How many of these have one of the n. -/
def wentN (n many room : Nat) : Nat := min (pairs n many room) ((n + 1) / 2)
def stayN (n many room : Nat) : Nat := n + many - 2 * pairs n many room
def leftN (n many room : Nat) : Nat := pairs n many room - wentN n many room
/-- The pair i, as one bucket. -/
def two (xs : List Sp) (t i : Nat) : Sp := ((el xs t (2 * i)).1, (el xs t (2 * i + 1)).2)
def went (xs : List Sp) (t many room : Nat) : List Sp := (List.range (wentN xs.length many room)).map (two xs t)
def stay (xs : List Sp) (t many room : Nat) : List Sp := (List.range (stayN xs.length many room)).map fun i => el xs t (2 * pairs xs.length many room + i)

theorem went_len (xs : List Sp) (t many room : Nat) : (went xs t many room).length = wentN xs.length many room := by simp [went]
theorem stay_len (xs : List Sp) (t many room : Nat) : (stay xs t many room).length = stayN xs.length many room := by simp [stay]

theorem el_lt {xs : List Sp} {t i : Nat} (h : i < xs.length) : el xs t i = xs[i] := by simp [el, h]
theorem el_ge {xs : List Sp} {t i : Nat} (h : xs.length ≤ i) : el xs t i = (t, t) := by simp [el, h]
theorem two_ge {xs : List Sp} {t i : Nat} (h : xs.length ≤ 2 * i) : two xs t i = (t, t) := by
  unfold two
  rw [el_ge (by omega), el_ge (by omega)]

/-! ### How many -/

theorem pairs_le {n many room : Nat} (h : 1 ≤ room) : 2 * pairs n many room ≤ n + many := by unfold pairs; omega
theorem stayN_le {n many room : Nat} : stayN n many room ≤ room := by unfold stayN pairs; omega
theorem wentN_le (n many room : Nat) : wentN n many room ≤ pairs n many room := Nat.min_le_left _ _
theorem wentN_half (n many room : Nat) : wentN n many room ≤ (n + 1) / 2 := Nat.min_le_right _ _
theorem leftN_le (n many room : Nat) (h : 1 ≤ room) : 2 * leftN n many room ≤ many := by
  unfold leftN wentN pairs
  omega
theorem sums (n many room : Nat) (h : 1 ≤ room) : 2 * (wentN n many room + leftN n many room) + stayN n many room = n + many := by
  unfold leftN stayN wentN pairs
  omega
theorem least (n many room : Nat) (h : 1 ≤ room) (hw : wentN n many room + leftN n many room ≠ 0) : room - 1 ≤ stayN n many room := by
  unfold leftN stayN wentN pairs at *
  omega
/-- What 'settle' tells, two times, one behind the other. -/
theorem settle_sum (n many room a fit over stay1 fit2 over2 : Nat) (hr : 1 ≤ room) (h1 : fit = min n room) (h2 : over = n - fit) (h3 : stay1 = fit - over % 2) (h4 : fit2 = min many (room - stay1)) (h5 : over2 = many - fit2)
    (ha : a = (over / 2 + over % 2) + (over2 / 2 + over2 % 2)) : a = pairs n many room ∧ stay1 + fit2 - over2 % 2 = stayN n many room := by
  unfold stayN pairs
  omega

/-! ### The program's own way: pairs and what stays are told one behind the other, and no further than the list -/

theorem stay_told {xs : List Sp} {t many room i : Nat} : el xs t (2 * wentN xs.length many room + i) = el xs t (2 * pairs xs.length many room + i) := by
  have h1 := wentN_le xs.length many room
  have h2 := wentN_half xs.length many room
  rcases Nat.lt_or_ge (2 * wentN xs.length many room) xs.length with h | h
  · have : wentN xs.length many room = pairs xs.length many room := by
      have : wentN xs.length many room = min (pairs xs.length many room) ((xs.length + 1) / 2) := rfl
      omega
    rw [this]
  · rw [el_ge (i := 2 * pairs xs.length many room + i) (by omega), el_ge (by omega)]

/-- What goes, with those of one tick behind it. -/
theorem went_full (xs : List Sp) (t many room : Nat) : went xs t many room ++ List.replicate (leftN xs.length many room) (t, t) = (List.range (pairs xs.length many room)).map (two xs t) := by
  have h1 := wentN_le xs.length many room
  apply List.ext_getElem
  · simp only [List.length_append, went_len, List.length_replicate, List.length_map, List.length_range]
    unfold leftN
    omega
  · intro i hi1 hi2
    simp only [List.getElem_map, List.getElem_range, went]
    rw [List.getElem_append]
    split
    · simp
    · rename_i h
      simp only [List.length_map, List.length_range] at h
      simp only [List.length_map, List.length_range] at hi2
      have hw : wentN xs.length many room = min (pairs xs.length many room) ((xs.length + 1) / 2) := rfl
      rw [List.getElem_replicate, two_ge (by omega)]

/-! ### One by one -/

def one (l : List Sp) (most : Nat) (s : Sp) : List Sp × List Sp :=
  if (l ++ [s]).length ≤ most then (l ++ [s], []) else ((l ++ [s]).drop 2, [(((l ++ [s])[0]?.getD (0, 0)).1, ((l ++ [s])[1]?.getD (0, 0)).2)])

/-- What stays, and what went, of a line's first n. -/
def stayTo (xs : List Sp) (t n room : Nat) : List Sp := (List.range (n - 2 * ((n - room + 1) / 2))).map fun i => el xs t (2 * ((n - room + 1) / 2) + i)
def wentTo (xs : List Sp) (t n room : Nat) : List Sp := (List.range ((n - room + 1) / 2)).map (two xs t)

theorem stayTo_all (xs : List Sp) (t many room : Nat) : stayTo xs t (xs.length + many) room = stay xs t many room := rfl
theorem wentTo_all (xs : List Sp) (t many room : Nat) : wentTo xs t (xs.length + many) room = went xs t many room ++ List.replicate (leftN xs.length many room) (t, t) := (went_full xs t many room).symm
theorem stayTo_first (l ys : List Sp) (t room : Nat) (h : l.length ≤ room) : stayTo (l ++ ys) t l.length room = l := by
  have e : (l.length - room + 1) / 2 = 0 := by omega
  unfold stayTo
  rw [e]
  apply List.ext_getElem
  · simp
  · intro i h1 h2
    simp [el, List.getElem?_append_left h2, h2]
theorem wentTo_first (xs : List Sp) (t n room : Nat) (h : n ≤ room) : wentTo xs t n room = [] := by
  have e : (n - room + 1) / 2 = 0 := by omega
  unfold wentTo
  rw [e]
  rfl
theorem range_snoc (f : Nat → Sp) (n : Nat) : (List.range (n + 1)).map f = (List.range n).map f ++ [f n] := by rw [List.range_succ, List.map_append]; rfl
theorem range_drop2 (f : Nat → Sp) (n : Nat) : ((List.range (n + 2)).map f).drop 2 = (List.range n).map fun i => f (2 + i) := by
  apply List.ext_getElem
  · simp
  · intro i h1 h2
    simp [Nat.add_comm 2 i]
theorem one_step (xs : List Sp) (t n room : Nat) (hr : 1 ≤ room) : one (stayTo xs t n room) room (el xs t n) = (stayTo xs t (n + 1) room, (wentTo xs t (n + 1) room).drop (wentTo xs t n room).length) ∧ wentTo xs t (n + 1) room = wentTo xs t n room ++ (one (stayTo xs t n room) room (el xs t n)).2 := by
  obtain ⟨p, hp⟩ : ∃ p, (n - room + 1) / 2 = p := ⟨_, rfl⟩
  obtain ⟨q, hq⟩ : ∃ q, (n + 1 - room + 1) / 2 = q := ⟨_, rfl⟩
  have hs : stayTo xs t n room ++ [el xs t n] = (List.range (n - 2 * p + 1)).map fun i => el xs t (2 * p + i) := by
    unfold stayTo
    rw [hp, range_snoc, show 2 * p + (n - 2 * p) = n by omega]
  have hw : wentTo xs t n room = (List.range p).map (two xs t) := by unfold wentTo; rw [hp]
  unfold one
  rw [hs, hw]
  by_cases h : n - 2 * p + 1 ≤ room
  · have e : q = p := by omega
    rw [if_pos (by simpa using h)]
    unfold stayTo wentTo
    rw [hq, e, show n + 1 - 2 * p = n - 2 * p + 1 by omega]
    simp
  · have e : q = p + 1 := by omega
    rw [if_neg (by simpa using h)]
    obtain ⟨m, hm⟩ : ∃ m, n - 2 * p + 1 = m + 2 := ⟨n - 2 * p - 1, by omega⟩
    unfold stayTo wentTo
    rw [hq, e, show n + 1 - 2 * (p + 1) = m by omega, hm, range_drop2, range_snoc (two xs t) p]
    have e2 : ∀ i, 2 * p + (2 + i) = 2 * (p + 1) + i := by intro i; omega
    have e3 : ((List.range (m + 2)).map fun i => el xs t (2 * p + i))[0]?.getD (0, 0) = el xs t (2 * p) := by simp
    have e4 : ((List.range (m + 2)).map fun i => el xs t (2 * p + i))[1]?.getD (0, 0) = el xs t (2 * p + 1) := by simp
    rw [e3, e4]
    simp only [e2]
    constructor
    · simp [two]
    · simp [two]

/-! ### In two -/

theorem el_stay (xs : List Sp) (t x room i : Nat) (hr : 1 ≤ room) : el (stay xs t x room) t i = el xs t (2 * pairs xs.length x room + i) := by
  have hp := pairs_le (n := xs.length) (many := x) hr
  rcases Nat.lt_or_ge i (stayN xs.length x room) with h | h
  · rw [el_lt (by rw [stay_len]; exact h)]
    simp [stay]
  · rw [el_ge (by rw [stay_len]; exact h), el_ge (by unfold stayN at h; omega)]
theorem two_stay (xs : List Sp) (t x room i : Nat) (hr : 1 ≤ room) : two (stay xs t x room) t i = two xs t (pairs xs.length x room + i) := by
  unfold two
  rw [el_stay _ _ _ _ _ hr, el_stay _ _ _ _ _ hr, show 2 * pairs xs.length x room + 2 * i = 2 * (pairs xs.length x room + i) by omega, show 2 * pairs xs.length x room + (2 * i + 1) = 2 * (pairs xs.length x room + i) + 1 by omega]
theorem pairs_twice (n x y room : Nat) (hr : 1 ≤ room) : pairs n (x + y) room = pairs n x room + pairs (stayN n x room) y room := by
  unfold stayN pairs
  omega
theorem twice_stay (xs : List Sp) (t x y room : Nat) (hr : 1 ≤ room) : stay (stay xs t x room) t y room = stay xs t (x + y) room := by
  have hp := pairs_le (n := xs.length) (many := x) hr
  have h2 := pairs_twice xs.length x y room hr
  apply List.ext_getElem
  · rw [stay_len, stay_len, stay_len]
    have e : stayN xs.length x room = xs.length + x - 2 * pairs xs.length x room := rfl
    show stayN xs.length x room + y - 2 * pairs (stayN xs.length x room) y room = xs.length + (x + y) - 2 * pairs xs.length (x + y) room
    omega
  · intro i h1 h3
    have : (stay (stay xs t x room) t y room)[i] = el (stay xs t x room) t (2 * pairs (stay xs t x room).length y room + i) := by simp [stay]
    rw [this, el_stay _ _ _ _ _ hr, stay_len]
    have : (stay xs t (x + y) room)[i] = el xs t (2 * pairs xs.length (x + y) room + i) := by simp [stay]
    rw [this, h2]
    congr 1
    omega
theorem twice_went (xs : List Sp) (t x y room : Nat) (hr : 1 ≤ room) : (went xs t x room ++ List.replicate (leftN xs.length x room) (t, t)) ++ (went (stay xs t x room) t y room ++ List.replicate (leftN (stay xs t x room).length y room) (t, t)) = went xs t (x + y) room ++ List.replicate (leftN xs.length (x + y) room) (t, t) := by
  rw [went_full, went_full, went_full, stay_len, pairs_twice _ _ _ _ hr]
  apply List.ext_getElem
  · simp
  · intro i h1 h2
    rw [List.getElem_append]
    split
    · simp
    · rename_i h
      simp only [List.length_map, List.length_range] at h
      simp only [List.getElem_map, List.getElem_range, List.length_map, List.length_range]
      rw [two_stay _ _ _ _ _ hr]
      congr 1
      omega

/-! ### In turn -/

/-- Buckets that stand in turn. -/
def Turn (xs : List Sp) : Prop := (∀ x ∈ xs, x.1 ≤ x.2) ∧ xs.Pairwise fun x y => x.2 ≤ y.1

theorem Turn.nil : Turn [] := ⟨by simp, by simp⟩
theorem Turn.snoc {xs : List Sp} {x : Sp} {t : Nat} (h : Turn xs) (ht : ∀ y ∈ xs, y.2 ≤ t) (hx : t ≤ x.1) (h1 : x.1 ≤ x.2) : Turn (xs ++ [x]) := by
  refine ⟨?_, ?_⟩
  · intro y hy
    rcases List.mem_append.1 hy with hy | hy
    · exact h.1 y hy
    · rw [List.mem_singleton.1 hy]; exact h1
  · rw [List.pairwise_append]
    refine ⟨h.2, by simp, fun a ha b hb => ?_⟩
    rw [List.mem_singleton.1 hb]
    exact Nat.le_trans (ht a ha) hx

section
variable {xs : List Sp} {t : Nat} (h : Turn xs) (ht : ∀ y ∈ xs, y.2 ≤ t)
include h ht
omit ht in
theorem el_self (i : Nat) : (el xs t i).1 ≤ (el xs t i).2 := by
  rcases Nat.lt_or_ge i xs.length with hi | hi
  · rw [el_lt hi]; exact h.1 _ (List.getElem_mem hi)
  · rw [el_ge hi]; exact Nat.le_refl _
omit h in
theorem el_le (i : Nat) : (el xs t i).2 ≤ t := by
  rcases Nat.lt_or_ge i xs.length with hi | hi
  · rw [el_lt hi]; exact ht _ (List.getElem_mem hi)
  · rw [el_ge hi]; exact Nat.le_refl _
theorem el_turn {i j : Nat} (hij : i < j) : (el xs t i).2 ≤ (el xs t j).1 := by
  rcases Nat.lt_or_ge j xs.length with hj | hj
  · rw [el_lt hj, el_lt (by omega)]
    exact List.pairwise_iff_getElem.1 h.2 i j (by omega) hj hij
  · rw [el_ge hj]
    exact el_le ht i
theorem two_self (i : Nat) : (two xs t i).1 ≤ (two xs t i).2 :=
  Nat.le_trans (el_self h (2 * i)) (Nat.le_trans (el_turn h ht (show 2 * i < 2 * i + 1 by omega)) (el_self h (2 * i + 1)))
theorem whole_turn (many room k : Nat) (hk : k ≤ leftN xs.length many room) : Turn ((went xs t many room ++ List.replicate k (t, t)) ++ stay xs t many room) := by
  have hwm : ∀ x ∈ went xs t many room, ∃ i, i < wentN xs.length many room ∧ x = two xs t i := by
    intro x hx
    simp only [went, List.mem_map, List.mem_range] at hx
    obtain ⟨i, hi, rfl⟩ := hx
    exact ⟨i, hi, rfl⟩
  have hsm : ∀ x ∈ stay xs t many room, ∃ i, x = el xs t (2 * pairs xs.length many room + i) := by
    intro x hx
    simp only [stay, List.mem_map, List.mem_range] at hx
    obtain ⟨i, hi, rfl⟩ := hx
    exact ⟨i, rfl⟩
  have hrm : ∀ x ∈ List.replicate k (t, t), 0 < k ∧ x = (t, t) := by
    intro x hx
    have := List.mem_replicate.1 hx
    exact ⟨by omega, this.2⟩
  have hwl := wentN_le xs.length many room
  refine ⟨?_, ?_⟩
  · intro x hx
    rcases List.mem_append.1 hx with hx | hx
    · rcases List.mem_append.1 hx with hx | hx
      · obtain ⟨i, _, rfl⟩ := hwm x hx
        exact two_self h ht i
      · rw [(hrm x hx).2]; exact Nat.le_refl _
    · obtain ⟨i, rfl⟩ := hsm x hx
      exact el_self h _
  · rw [List.pairwise_append, List.pairwise_append]
    refine ⟨⟨?_, ?_, ?_⟩, ?_, ?_⟩
    · rw [List.pairwise_iff_getElem]
      intro i j hi hj hij
      simp only [went, List.getElem_map, List.getElem_range]
      exact el_turn h ht (show 2 * i + 1 < 2 * j by omega)
    · rw [List.pairwise_iff_getElem]
      intro i j hi hj hij
      simp
    · intro a ha b hb
      obtain ⟨i, _, rfl⟩ := hwm a ha
      rw [(hrm b hb).2]
      exact el_le ht _
    · rw [List.pairwise_iff_getElem]
      intro i j hi hj hij
      simp only [stay, List.getElem_map, List.getElem_range]
      exact el_turn h ht (by omega)
    · intro a ha b hb
      obtain ⟨j, rfl⟩ := hsm b hb
      rcases List.mem_append.1 ha with ha | ha
      · obtain ⟨i, hi, rfl⟩ := hwm a ha
        exact el_turn h ht (show 2 * i + 1 < 2 * pairs xs.length many room + j by omega)
      · obtain ⟨h0, rfl⟩ := hrm a ha
        have : wentN xs.length many room = min (pairs xs.length many room) ((xs.length + 1) / 2) := rfl
        have h3 : 0 < leftN xs.length many room := by omega
        unfold leftN at h3
        rw [el_ge (by omega)]
        exact Nat.le_refl _
end

theorem Turn.at {xs : List Sp} (h : Turn xs) (i : Nat) (hi : i < xs.length) : (xs[i]).1 ≤ (xs[i]).2 := h.1 _ (List.getElem_mem hi)
theorem Turn.next {xs : List Sp} (h : Turn xs) (i : Nat) (hi : i + 1 < xs.length) : (xs[i]).2 ≤ (xs[i + 1]).1 := List.pairwise_iff_getElem.1 h.2 i (i + 1) (by omega) hi (by omega)

end Go.Proofs.Lm
end
section
/- Plain mathematics of histograms: levels of buckets, what comes to them, units, the shape, the turn. -/
namespace Go.Proofs.Lh
open Go.Proofs.Lm (Sp el two pairs wentN stayN leftN went stay Turn)

/-- How many pairs go of so many. -/
def prs (n room : Nat) : Nat := (n - room + 1) / 2
/-- What stays of a level's buckets, and what goes. -/
def stayL (xs : List Sp) (room : Nat) : List Sp := xs.drop (2 * prs xs.length room)
def pairUp : List Sp → List Sp
  | a :: b :: r => (a.1, b.2) :: pairUp r
  | _ => []
def wentL (xs : List Sp) (room : Nat) : List Sp := pairUp (xs.take (2 * prs xs.length room))

theorem pairUp_len : ∀ xs : List Sp, (pairUp xs).length = xs.length / 2
  | [] => rfl
  | [_] => by simp [pairUp]
  | _ :: _ :: r => by simp only [pairUp, List.length_cons, pairUp_len r]; omega
theorem pairUp_app : ∀ (xs ys : List Sp), xs.length % 2 = 0 → pairUp (xs ++ ys) = pairUp xs ++ pairUp ys
  | [], ys, _ => rfl
  | [_], _, h => by simp at h
  | a :: b :: r, ys, h => by
    simp only [List.cons_append, pairUp]
    rw [pairUp_app r ys (by simp at h; omega)]
theorem pairUp_get : ∀ (xs : List Sp) (i : Nat) (h : 2 * i + 1 < xs.length), (pairUp xs)[i]? = some (xs[2 * i].1, xs[2 * i + 1].2)
  | [], _, h => by simp at h
  | [_], _, h => by simp at h
  | a :: b :: r, 0, _ => rfl
  | a :: b :: r, i + 1, h => by
    simp only [pairUp, List.getElem?_cons_succ]
    rw [pairUp_get r i (by simp at h; omega)]
    simp [show 2 * (i + 1) = 2 * i + 1 + 1 by omega]
theorem prs_le (n room : Nat) (h : 1 ≤ room) : 2 * prs n room ≤ n := by unfold prs; omega
theorem stayL_len (xs : List Sp) (room : Nat) : (stayL xs room).length = xs.length - 2 * prs xs.length room := by simp [stayL]
theorem wentL_len (xs : List Sp) (room : Nat) (h : 1 ≤ room) : (wentL xs room).length = prs xs.length room := by
  have := prs_le xs.length room h
  unfold wentL
  rw [pairUp_len, List.length_take]
  omega
theorem sumL (xs : List Sp) (room : Nat) (h : 1 ≤ room) : (stayL xs room).length + 2 * (wentL xs room).length = xs.length := by
  have := prs_le xs.length room h
  rw [stayL_len, wentL_len _ _ h]
  omega
theorem stayL_le (xs : List Sp) (room : Nat) : (stayL xs room).length ≤ room := by
  rw [stayL_len]
  unfold prs
  omega
theorem stayL_few {xs : List Sp} {room : Nat} (h : xs.length ≤ room) : stayL xs room = xs := by
  unfold stayL prs
  rw [show 2 * ((xs.length - room + 1) / 2) = 0 by omega, List.drop_zero]
theorem wentL_few {xs : List Sp} {room : Nat} (h : xs.length ≤ room) : wentL xs room = [] := by
  unfold wentL prs
  rw [show 2 * ((xs.length - room + 1) / 2) = 0 by omega, List.take_zero]
  rfl
theorem wentL_ne {xs : List Sp} {room : Nat} (hr : 1 ≤ room) (h : room < xs.length) : wentL xs room ≠ [] := by
  intro e
  have := wentL_len xs room hr
  rw [e] at this
  unfold prs at this
  simp at this
  omega
theorem stayL_least {xs : List Sp} {room : Nat} (h : room < xs.length) : room - 1 ≤ (stayL xs room).length := by
  rw [stayL_len]
  unfold prs
  omega

/-- Pushed in two, it is as pushed at once. -/
theorem stayL_app (xs ys : List Sp) (room : Nat) (hr : 1 ≤ room) : stayL (stayL xs room ++ ys) room = stayL (xs ++ ys) room := by
  have hp := prs_le xs.length room hr
  have e : prs (xs ++ ys).length room = prs xs.length room + prs (stayL xs room ++ ys).length room := by
    rw [List.length_append, List.length_append, stayL_len]
    unfold prs at *
    omega
  rw [show stayL (xs ++ ys) room = (xs ++ ys).drop (2 * prs (xs ++ ys).length room) from rfl, e, Nat.mul_add, ← List.drop_drop, List.drop_append_of_le_length (by omega)]
  rfl
theorem wentL_app (xs ys : List Sp) (room : Nat) (hr : 1 ≤ room) : wentL (xs ++ ys) room = wentL xs room ++ wentL (stayL xs room ++ ys) room := by
  have hp := prs_le xs.length room hr
  have e : prs (xs ++ ys).length room = prs xs.length room + prs (stayL xs room ++ ys).length room := by
    rw [List.length_append, List.length_append, stayL_len]
    unfold prs at *
    omega
  unfold wentL
  rw [← pairUp_app _ _ (by rw [List.length_take]; omega), e, Nat.mul_add, List.take_add, List.take_append_of_le_length (by omega), List.drop_append_of_le_length (by omega)]
  rfl

/-! ### What level.Push tells, as lists -/

def full (xs : List Sp) (t many : Nat) : List Sp := xs ++ List.replicate many (t, t)
theorem full_len (xs : List Sp) (t many : Nat) : (full xs t many).length = xs.length + many := by simp [full]
theorem full_get (xs : List Sp) (t many i : Nat) (h : i < xs.length + many) : (full xs t many)[i]? = some (el xs t i) := by
  unfold full el
  rcases Nat.lt_or_ge i xs.length with h1 | h1
  · rw [List.getElem?_append_left h1, List.getElem?_eq_getElem h1]
    rfl
  · rw [List.getElem?_append_right h1, List.getElem?_replicate, if_pos (by omega), List.getElem?_eq_none h1]
    rfl
theorem stay_full (xs : List Sp) (t many room : Nat) (hr : 1 ≤ room) : stay xs t many room = stayL (full xs t many) room := by
  have hp := Lm.pairs_le (n := xs.length) (many := many) hr
  apply List.ext_getElem?
  intro i
  unfold stayL
  rw [List.getElem?_drop, full_len]
  rw [show prs (xs.length + many) room = pairs xs.length many room from rfl]
  rcases Nat.lt_or_ge i (stayN xs.length many room) with h | h
  · rw [full_get _ _ _ _ (by unfold stayN at h; omega)]
    simp [stay, h]
  · rw [List.getElem?_eq_none (by rw [Lm.stay_len]; exact h), List.getElem?_eq_none (by rw [full_len]; unfold stayN at h; omega)]
theorem went_full_list (xs : List Sp) (t many room : Nat) (hr : 1 ≤ room) : full (went xs t many room) t (leftN xs.length many room) = wentL (full xs t many) room := by
  have hp := Lm.pairs_le (n := xs.length) (many := many) hr
  unfold full at *
  rw [Lm.went_full]
  have hw := wentL_len (full xs t many) room hr
  rw [full_len] at hw
  apply List.ext_getElem?
  intro i
  rcases Nat.lt_or_ge i (pairs xs.length many room) with h | h
  · rw [show (List.map (two xs t) (List.range (pairs xs.length many room)))[i]? = some (two xs t i) by simp [h]]
    unfold wentL
    have hl : ((full xs t many).take (2 * prs (full xs t many).length room)).length = 2 * pairs xs.length many room := by
      rw [List.length_take, full_len]
      show min (2 * pairs xs.length many room) _ = _
      omega
    have g := pairUp_get ((full xs t many).take (2 * prs (full xs t many).length room)) i (by omega)
    rw [show xs ++ List.replicate many (t, t) = full xs t many from rfl, g]
    have e1 := full_get xs t many (2 * i) (by omega)
    have e2 := full_get xs t many (2 * i + 1) (by omega)
    rw [List.getElem?_eq_getElem (by rw [full_len]; omega)] at e1 e2
    simp only [List.getElem_take]
    injection e1 with e1
    injection e2 with e2
    rw [e1, e2]
    rfl
  · rw [List.getElem?_eq_none (by simpa using h), List.getElem?_eq_none (by rw [show xs ++ List.replicate many (t, t) = full xs t many from rfl, hw]; exact h)]

/-! ### Levels -/

abbrev Lv := List (List Sp)

/-- How many buckets the level i may have. -/
def rm (k i : Nat) : Nat := if i = 0 then k + 1 else (k + 1) / 2 + 1
theorem rm_pos (k i : Nat) : 1 ≤ rm k i := by unfold rm; split <;> omega

theorem rm_two (k i : Nat) (h : 1 ≤ k) : 2 ≤ rm k i := by unfold rm; split <;> omega

theorem went_lt (xs : List Sp) (room : Nat) (hr : 1 ≤ room) (h : xs ≠ []) : (wentL xs room).length < xs.length := by
  have h1 := wentL_len xs room hr
  have h2 := prs_le xs.length room hr
  have : 0 < xs.length := List.length_pos_iff.2 h
  omega

/-- What comes behind all levels makes new ones. -/
def newL (k i : Nat) (come : List Sp) : Lv :=
  if h : come = [] then [] else stayL come (rm k i) :: newL k (i + 1) (wentL come (rm k i))
termination_by come.length
decreasing_by exact went_lt come (rm k i) (rm_pos k i) h

/-- Buckets that come to levels, from the level i on. -/
def addL (k : Nat) : Nat → Lv → List Sp → Lv
  | i, [], come => newL k i come
  | i, l :: ls, come => stayL (l ++ come) (rm k i) :: addL k (i + 1) ls (wentL (l ++ come) (rm k i))

theorem newL_nil (k i : Nat) : newL k i [] = [] := by rw [newL]; simp
theorem newL_ne (k i : Nat) {come : List Sp} (h : come ≠ []) : newL k i come = stayL come (rm k i) :: newL k (i + 1) (wentL come (rm k i)) := by rw [newL]; simp [h]

theorem newL_app (k : Nat) : ∀ (n i : Nat) (a b : List Sp), a.length + b.length ≤ n → newL k i (a ++ b) = addL k i (newL k i a) b := by
  intro n
  induction n with
  | zero =>
    intro i a b h
    have ha : a = [] := List.eq_nil_of_length_eq_zero (by omega)
    have hb : b = [] := List.eq_nil_of_length_eq_zero (by omega)
    subst ha hb
    rw [List.append_nil, newL_nil, addL, newL_nil]
  | succ n ih =>
    intro i a b h
    by_cases ha : a = []
    · subst ha
      rw [List.nil_append, newL_nil, addL]
    · have hr := rm_pos k i
      have hab : a ++ b ≠ [] := by simp [ha]
      rw [newL_ne k i hab, newL_ne k i ha, addL, stayL_app a b _ hr, wentL_app a b _ hr]
      have hal : 0 < a.length := List.length_pos_iff.2 ha
      have h1 := sumL (a ++ b) (rm k i) hr
      rw [wentL_app a b _ hr, List.length_append, List.length_append] at h1
      rw [ih (i + 1) _ _ (by omega)]

theorem addL_app (k : Nat) : ∀ (ls : Lv) (i : Nat) (a b : List Sp), addL k i ls (a ++ b) = addL k i (addL k i ls a) b
  | [], i, a, b => by rw [addL, addL]; exact newL_app k _ i a b (Nat.le_refl _)
  | l :: ls, i, a, b => by
    have hr := rm_pos k i
    rw [addL, addL, addL, ← List.append_assoc, stayL_app (l ++ a) b _ hr, wentL_app (l ++ a) b _ hr, addL_app k ls (i + 1)]

/-- No level has more than it may. -/
def Few (k : Nat) : Nat → Lv → Prop
  | _, [] => True
  | i, l :: ls => l.length ≤ rm k i ∧ Few k (i + 1) ls
theorem newL_few (k : Nat) : ∀ (n i : Nat) (come : List Sp), come.length ≤ n → Few k i (newL k i come) := by
  intro n
  induction n with
  | zero =>
    intro i come h
    have : come = [] := List.eq_nil_of_length_eq_zero (by omega)
    subst this
    rw [newL_nil]
    trivial
  | succ n ih =>
    intro i come h
    by_cases hc : come = []
    · subst hc
      rw [newL_nil]
      trivial
    · rw [newL_ne k i hc]
      have := went_lt come (rm k i) (rm_pos k i) hc
      exact ⟨stayL_le _ _, ih (i + 1) _ (by omega)⟩
theorem addL_few (k : Nat) : ∀ (ls : Lv) (i : Nat) (come : List Sp), Few k i (addL k i ls come)
  | [], i, come => by rw [addL]; exact newL_few k _ i come (Nat.le_refl _)
  | l :: ls, i, come => by rw [addL]; exact ⟨stayL_le _ _, addL_few k ls (i + 1) _⟩
theorem addL_none (k : Nat) : ∀ (ls : Lv) (i : Nat), Few k i ls → addL k i ls [] = ls
  | [], i, _ => by rw [addL, newL_nil]
  | l :: ls, i, h => by
    rw [addL, List.append_nil, stayL_few h.1, wentL_few h.1, addL_none k ls (i + 1) h.2]

/-! ### No unit is lost -/

/-- All units, of buckets of one unit on the first level. -/
def tot : Lv → Nat
  | [] => 0
  | l :: ls => l.length + 2 * tot ls
theorem newL_tot (k : Nat) : ∀ (n i : Nat) (come : List Sp), come.length ≤ n → tot (newL k i come) = come.length := by
  intro n
  induction n with
  | zero =>
    intro i come h
    have : come = [] := List.eq_nil_of_length_eq_zero (by omega)
    subst this
    rw [newL_nil]
    rfl
  | succ n ih =>
    intro i come h
    by_cases hc : come = []
    · subst hc
      rw [newL_nil]
      rfl
    · have h1 := went_lt come (rm k i) (rm_pos k i) hc
      have h2 := sumL come (rm k i) (rm_pos k i)
      rw [newL_ne k i hc, tot, ih (i + 1) _ (by omega)]
      omega
theorem addL_tot (k : Nat) : ∀ (ls : Lv) (i : Nat) (come : List Sp), tot (addL k i ls come) = tot ls + come.length
  | [], i, come => by rw [addL, newL_tot k _ i come (Nat.le_refl _), tot]; omega
  | l :: ls, i, come => by
    have h2 := sumL (l ++ come) (rm k i) (rm_pos k i)
    rw [List.length_append] at h2
    rw [addL, tot, addL_tot k ls (i + 1), tot]
    omega
/-- The same, by powers, as it is counted level by level. -/
def totFrom : Nat → Lv → Nat
  | _, [] => 0
  | i, l :: ls => l.length * 2 ^ i + totFrom (i + 1) ls
theorem totFrom_eq : ∀ (ls : Lv) (i : Nat), totFrom i ls = 2 ^ i * tot ls
  | [], i => by simp [totFrom, tot]
  | l :: ls, i => by
    rw [totFrom, totFrom_eq ls (i + 1), tot, Nat.pow_succ, Nat.mul_add, Nat.mul_comm l.length, Nat.mul_assoc]
theorem tot_eq (ls : Lv) : totFrom 0 ls = tot ls := by rw [totFrom_eq]; simp
theorem totFrom_app : ∀ (a b : Lv) (i : Nat), totFrom i (a ++ b) = totFrom i a + totFrom (i + a.length) b
  | [], b, i => by simp [totFrom]
  | l :: a, b, i => by
    rw [List.cons_append, totFrom, totFrom, totFrom_app a b (i + 1), List.length_cons, show i + 1 + a.length = i + (a.length + 1) by omega]
    omega

/-! ### The shape -/

/-- Each level below the last one has as many as must be, or one more; the last one has some, and no more than may be. -/
def Shape (k : Nat) : Nat → Lv → Prop
  | _, [] => True
  | i, [l] => 1 ≤ l.length ∧ l.length ≤ rm k i
  | i, l :: m :: ls => rm k i - 1 ≤ l.length ∧ l.length ≤ rm k i ∧ Shape k (i + 1) (m :: ls)
theorem shape_cons {k i : Nat} {l : List Sp} {r : Lv} (hr : Shape k (i + 1) r) (h1 : 1 ≤ l.length) (h2 : l.length ≤ rm k i) (h3 : r ≠ [] → rm k i - 1 ≤ l.length) : Shape k i (l :: r) := by
  cases r with
  | nil => exact ⟨h1, h2⟩
  | cons m ls => exact ⟨h3 (by simp), h2, hr⟩
theorem newL_shape (k : Nat) (hk : 1 ≤ k) : ∀ (n i : Nat) (come : List Sp), come.length ≤ n → Shape k i (newL k i come) := by
  intro n
  induction n with
  | zero =>
    intro i come h
    have : come = [] := List.eq_nil_of_length_eq_zero (by omega)
    subst this
    rw [newL_nil]
    trivial
  | succ n ih =>
    intro i come h
    by_cases hc : come = []
    · subst hc
      rw [newL_nil]
      trivial
    · have hl : 0 < come.length := List.length_pos_iff.2 hc
      have h1 := went_lt come (rm k i) (rm_pos k i) hc
      have h2 := rm_two k i hk
      rw [newL_ne k i hc]
      refine shape_cons (ih (i + 1) _ (by omega)) ?_ (stayL_le _ _) ?_
      · rcases Nat.lt_or_ge (rm k i) come.length with h | h
        · have := stayL_least h
          omega
        · rw [stayL_few h]
          exact hl
      · intro hne
        rcases Nat.lt_or_ge (rm k i) come.length with h | h
        · exact stayL_least h
        · rw [wentL_few h, newL_nil] at hne
          exact absurd rfl hne
theorem addL_shape (k : Nat) (hk : 1 ≤ k) : ∀ (ls : Lv) (i : Nat) (come : List Sp), Shape k i ls → Shape k i (addL k i ls come)
  | [], i, come, _ => by rw [addL]; exact newL_shape k hk _ i come (Nat.le_refl _)
  | [l], i, come, h => by
    have h2 := rm_two k i hk
    rw [addL]
    refine shape_cons (addL_shape k hk [] (i + 1) _ trivial) ?_ (stayL_le _ _) ?_
    · rcases Nat.lt_or_ge (rm k i) (l ++ come).length with h' | h'
      · have := stayL_least h'
        omega
      · rw [stayL_few h', List.length_append]
        have := h.1
        omega
    · intro hne
      rcases Nat.lt_or_ge (rm k i) (l ++ come).length with h' | h'
      · exact stayL_least h'
      · rw [wentL_few h', addL, newL_nil] at hne
        exact absurd rfl hne
  | l :: m :: ls, i, come, h => by
    have h2 := rm_two k i hk
    rw [addL]
    have hle : rm k i - 1 ≤ (stayL (l ++ come) (rm k i)).length := by
      rcases Nat.lt_or_ge (rm k i) (l ++ come).length with h' | h'
      · exact stayL_least h'
      · rw [stayL_few h', List.length_append]
        have := h.1
        omega
    exact shape_cons (addL_shape k hk (m :: ls) (i + 1) _ h.2.2) (by omega) (stayL_le _ _) (fun _ => hle)
theorem shape_few {k : Nat} : ∀ {ls : Lv} {i : Nat}, Shape k i ls → Few k i ls
  | [], _, _ => trivial
  | [_], _, h => ⟨h.2, trivial⟩
  | _ :: _ :: _, _, h => ⟨h.2.1, shape_few h.2.2⟩
theorem shape_head {k i : Nat} {l : List Sp} {ls : Lv} (hk : 1 ≤ k) (h : Shape k i (l :: ls)) : 1 ≤ l.length := by
  have := rm_two k i hk
  cases ls with
  | nil => exact h.1
  | cons m ls => have := h.1; omega

/-! ### The turn -/

/-- All buckets, the oldest ones, of the last level, first. -/
def allOf : Lv → List Sp
  | [] => []
  | l :: ls => allOf ls ++ l

theorem turn_app {xs ys : List Sp} : Turn (xs ++ ys) ↔ Turn xs ∧ Turn ys ∧ ∀ x ∈ xs, ∀ y ∈ ys, x.2 ≤ y.1 := by
  unfold Turn
  rw [List.pairwise_append]
  constructor
  · rintro ⟨h1, h2, h3, h4⟩
    exact ⟨⟨fun x hx => h1 x (List.mem_append_left _ hx), h2⟩, ⟨fun x hx => h1 x (List.mem_append_right _ hx), h3⟩, h4⟩
  · rintro ⟨⟨h1, h2⟩, ⟨h3, h4⟩, h5⟩
    exact ⟨fun x hx => (List.mem_append.1 hx).elim (h1 x) (h3 x), h2, h4, h5⟩
/-- Two that stand side by side, as one. -/
theorem pairUp_turn : ∀ (xs pre suf : List Sp), xs.length % 2 = 0 → Turn (pre ++ (xs ++ suf)) → Turn (pre ++ (pairUp xs ++ suf))
  | [], pre, suf, _, h => h
  | [_], _, _, hl, _ => by simp at hl
  | a :: b :: r, pre, suf, hl, h => by
    have hr := pairUp_turn r (pre ++ [(a.1, b.2)]) suf (by simp at hl; omega) ?_
    · simpa [pairUp] using hr
    · rw [List.append_assoc, List.singleton_append]
      obtain ⟨h1, h2, h3⟩ := turn_app.1 h
      have e : (a :: b :: r) ++ suf = [a, b] ++ (r ++ suf) := rfl
      rw [e] at h2 h3
      obtain ⟨h4, h5, h6⟩ := turn_app.1 h2
      have hab : a.2 ≤ b.1 := by
        have := h4.2
        simp at this
        exact this
      have ha := h4.1 a (by simp)
      have hb := h4.1 b (by simp)
      refine turn_app.2 ⟨h1, ?_, ?_⟩
      · have : (a.1, b.2) :: (r ++ suf) = [(a.1, b.2)] ++ (r ++ suf) := rfl
        rw [this]
        refine turn_app.2 ⟨⟨by simp; omega, by simp⟩, h5, ?_⟩
        intro x hx y hy
        rw [List.mem_singleton.1 hx]
        exact h6 b (by simp) y hy
      · intro x hx y hy
        rcases List.mem_cons.1 hy with rfl | hy
        · exact h3 x hx a (by simp)
        · exact h3 x hx y (List.mem_append_right _ hy)
theorem push_turn (xs pre suf : List Sp) (room : Nat) (hr : 1 ≤ room) (h : Turn (pre ++ (xs ++ suf))) : Turn (pre ++ (wentL xs room ++ (stayL xs room ++ suf))) := by
  have hp := prs_le xs.length room hr
  unfold wentL stayL
  refine pairUp_turn _ pre _ (by rw [List.length_take]; omega) ?_
  rw [← List.append_assoc (List.take _ xs), List.take_append_drop]
  exact h
theorem newL_turn (k : Nat) : ∀ (n i : Nat) (come suf : List Sp), come.length ≤ n → Turn (come ++ suf) → Turn (allOf (newL k i come) ++ suf) := by
  intro n
  induction n with
  | zero =>
    intro i come suf h ht
    have : come = [] := List.eq_nil_of_length_eq_zero (by omega)
    subst this
    rw [newL_nil]
    exact ht
  | succ n ih =>
    intro i come suf h ht
    by_cases hc : come = []
    · subst hc
      rw [newL_nil]
      exact ht
    · have h1 := went_lt come (rm k i) (rm_pos k i) hc
      rw [newL_ne k i hc, allOf, List.append_assoc]
      exact ih (i + 1) _ _ (by omega) (push_turn come [] suf (rm k i) (rm_pos k i) ht)
theorem addL_turn (k : Nat) : ∀ (ls : Lv) (i : Nat) (come suf : List Sp), Turn (allOf ls ++ (come ++ suf)) → Turn (allOf (addL k i ls come) ++ suf)
  | [], i, come, suf, h => by rw [addL]; exact newL_turn k _ i come suf (Nat.le_refl _) h
  | l :: ls, i, come, suf, h => by
    rw [addL, allOf, List.append_assoc]
    refine addL_turn k ls (i + 1) _ _ ?_
    refine push_turn (l ++ come) (allOf ls) suf (rm k i) (rm_pos k i) ?_
    rw [allOf, List.append_assoc] at h
    rw [List.append_assoc]
    exact h

/-! ### Units, one by one -/

theorem one_push (l : List Sp) (room : Nat) (s : Sp) (h : l.length ≤ room) (hr : 1 ≤ room) : Lm.one l room s = (stayL (l ++ [s]) room, wentL (l ++ [s]) room) := by
  unfold Lm.one
  by_cases h1 : (l ++ [s]).length ≤ room
  · rw [if_pos h1, stayL_few h1, wentL_few h1]
  · rw [if_neg h1]
    have hl : (l ++ [s]).length = room + 1 := by rw [List.length_append] at *; simp at *; omega
    have hp : prs (l ++ [s]).length room = 1 := by unfold prs; omega
    unfold stayL wentL
    rw [hp]
    match hm : l ++ [s], hl with
    | [], h => simp at h
    | [_], h => simp at h; omega
    | a :: b :: r, _ => simp [pairUp]

/-- Weight at once: so many units of a tick. -/
def addW (k : Nat) (ls : Lv) (t n : Nat) : Lv := addL k 0 ls (List.replicate n (t, t))
theorem addW_succ (k : Nat) (ls : Lv) (t n : Nat) : addW k ls t (n + 1) = addL k 0 (addW k ls t n) [(t, t)] := by
  unfold addW
  rw [List.replicate_succ', addL_app]
theorem addW_tot (k : Nat) (ls : Lv) (t n : Nat) : tot (addW k ls t n) = tot ls + n := by
  unfold addW
  rw [addL_tot, List.length_replicate]

/-! ### What was made -/

/-- The To of the last bucket of the first level. -/
def lastOf : Lv → Option Nat
  | [] => none
  | l :: _ => l.getLast?.map (·.2)
/-- Buckets of the first level are of one tick each. -/
def flat : Lv → Prop
  | [] => True
  | l :: _ => ∀ x ∈ l, x.1 = x.2
/-- What a histogram that was made keeps to. -/
structure Ok (k : Nat) (ls : Lv) : Prop where
  shape : Shape k 0 ls
  turn : Turn (allOf ls)
  flat : flat ls

theorem Ok.nil (k : Nat) : Ok k [] := ⟨trivial, Lm.Turn.nil, trivial⟩
theorem stayL_sub (xs : List Sp) (room : Nat) {x : Sp} (h : x ∈ stayL xs room) : x ∈ xs := List.mem_of_mem_drop h
theorem stayL_last (xs : List Sp) (room : Nat) (h : stayL xs room ≠ []) : (stayL xs room).getLast? = xs.getLast? := by
  unfold stayL at *
  rw [List.getLast?_drop, if_neg]
  intro e
  exact h (List.drop_of_length_le e)
theorem addW_flat (k : Nat) (ls : Lv) (t n : Nat) (h : flat ls) : flat (addW k ls t n) := by
  unfold addW
  cases ls with
  | nil =>
    rw [addL]
    by_cases hc : List.replicate n (t, t) = []
    · rw [hc, newL_nil]
      trivial
    · rw [newL_ne k 0 hc]
      intro x hx
      rw [(List.mem_replicate.1 (stayL_sub _ _ hx)).2]
  | cons l ls =>
    rw [addL]
    intro x hx
    rcases List.mem_append.1 (stayL_sub _ _ hx) with hx | hx
    · exact h x hx
    · rw [(List.mem_replicate.1 hx).2]
theorem addW_last (k : Nat) (hk : 1 ≤ k) (ls : Lv) (t n : Nat) (hs : Shape k 0 ls) (hn : 1 ≤ n) : lastOf (addW k ls t n) = some t := by
  have hsh := addL_shape k hk ls 0 (List.replicate n (t, t)) hs
  have hr : List.replicate n (t, t) ≠ [] := by simp; omega
  unfold addW
  cases ls with
  | nil =>
    rw [addL, newL_ne k 0 hr] at hsh ⊢
    have h1 := shape_head hk hsh
    rw [lastOf, stayL_last _ _ (by intro e; rw [e] at h1; simp at h1), List.getLast?_replicate, if_neg (by omega)]
    rfl
  | cons l ls =>
    rw [addL] at hsh ⊢
    have h1 := shape_head hk hsh
    rw [lastOf, stayL_last _ _ (by intro e; rw [e] at h1; simp at h1), List.getLast?_append, List.getLast?_replicate, if_neg (by omega)]
    rfl
theorem all_le {ls : Lv} {last : Nat} (ht : Turn (allOf ls)) (hl : lastOf ls = some last) : ∀ x ∈ allOf ls, x.2 ≤ last := by
  cases ls with
  | nil => intro x hx; cases hx
  | cons l ls =>
    rw [lastOf, Option.map_eq_some_iff] at hl
    obtain ⟨z, hz, rfl⟩ := hl
    obtain ⟨l', rfl⟩ : ∃ l', l = l' ++ [z] := by
      have := List.getLast?_eq_some_iff.1 hz
      obtain ⟨ys, h⟩ := this
      exact ⟨ys, h⟩
    rw [allOf, ← List.append_assoc] at ht ⊢
    obtain ⟨_, h2, h3⟩ := turn_app.1 ht
    intro x hx
    rcases List.mem_append.1 hx with hx | hx
    · exact Nat.le_trans (h3 x hx z (by simp)) (h2.1 z (by simp))
    · rw [List.mem_singleton.1 hx]
      exact Nat.le_refl _
theorem ones_turn (t n : Nat) : Turn (List.replicate n (t, t)) := by
  refine ⟨fun x hx => ?_, ?_⟩
  · rw [(List.mem_replicate.1 hx).2]
    exact Nat.le_refl _
  · rw [List.pairwise_iff_getElem]
    intro i j hi hj _
    simp
theorem Ok.add {k : Nat} (hk : 1 ≤ k) {ls : Lv} (h : Ok k ls) (t n : Nat) (hl : ∀ last, lastOf ls = some last → last ≤ t) : Ok k (addW k ls t n) := by
  refine ⟨addL_shape k hk ls 0 _ h.shape, ?_, addW_flat k ls t n h.flat⟩
  have := addL_turn k ls 0 (List.replicate n (t, t)) [] ?_
  · simpa [addW] using this
  · rw [List.append_nil]
    refine turn_app.2 ⟨h.turn, ones_turn t n, ?_⟩
    intro x hx y hy
    rw [(List.mem_replicate.1 hy).2]
    cases hls : lastOf ls with
    | some last => exact Nat.le_trans (all_le h.turn hls x hx) (hl last hls)
    | none =>
      cases ls with
      | nil => cases hx
      | cons l ls =>
        have h1 := shape_head hk h.shape
        rw [lastOf, Option.map_eq_none_iff, List.getLast?_eq_none_iff] at hls
        rw [hls] at h1
        simp at h1
/-- As it is read level by level: each bucket is no earlier than those that are older. -/
theorem Ok.few {k : Nat} {ls : Lv} (h : Ok k ls) : Few k 0 ls := shape_few h.shape

end Go.Proofs.Lh
end
section
/- More plain mathematics of histograms: one level of them, how many there are, what Add answers, round by round. -/
namespace Go.Proofs.Lh
open Go.Proofs.Lm (Sp el two pairs wentN stayN leftN went stay Turn)

/-- The level i; behind the last one it is empty. -/
def lev (ls : Lv) (i : Nat) : List Sp := ls[i]?.getD []
theorem lev_lt {ls : Lv} {i : Nat} (h : i < ls.length) : lev ls i = ls[i] := by simp [lev, List.getElem?_eq_getElem h]
theorem lev_ge {ls : Lv} {i : Nat} (h : ls.length ≤ i) : lev ls i = [] := by simp [lev, List.getElem?_eq_none h]
theorem drop_lev {ls : Lv} {i : Nat} (h : i < ls.length) : ls.drop i = lev ls i :: ls.drop (i + 1) := by rw [lev_lt h]; exact List.drop_eq_getElem_cons h

theorem few_lev {k : Nat} : ∀ {ls : Lv} {i : Nat} (j : Nat), Few k i ls → (lev ls j).length ≤ rm k (i + j)
  | [], _, _, _ => by simp [lev]
  | l :: ls, i, 0, h => h.1
  | l :: ls, i, j + 1, h => by
    have := few_lev (ls := ls) j h.2
    rw [show i + 1 + j = i + (j + 1) by omega] at this
    exact this
theorem few_drop {k : Nat} : ∀ {ls : Lv} {i : Nat} (j : Nat), Few k i ls → Few k (i + j) (ls.drop j)
  | [], _, _, _ => by simp [Few]
  | _ :: _, _, 0, h => h
  | l :: ls, i, j + 1, h => by
    have := few_drop (ls := ls) j h.2
    rw [show i + 1 + j = i + (j + 1) by omega] at this
    exact this
theorem rm_le (k i : Nat) : rm k i ≤ k + 2 := by unfold rm; split <;> omega

/-- One step of what comes: whatever the level is. -/
theorem addL_step (k i : Nat) (ls : Lv) (come : List Sp) (h : come ≠ [] ∨ i < ls.length) : addL k i (ls.drop i) come = stayL (lev ls i ++ come) (rm k i) :: addL k (i + 1) (ls.drop (i + 1)) (wentL (lev ls i ++ come) (rm k i)) := by
  rcases Nat.lt_or_ge i ls.length with hi | hi
  · rw [drop_lev hi, addL]
  · rw [List.drop_of_length_le hi, List.drop_of_length_le (by omega), lev_ge hi, List.nil_append]
    have hc : come ≠ [] := h.resolve_right (by omega)
    rw [addL, addL, newL_ne k i hc]

/-- So many levels there may be: each has a unit of its size. -/
theorem shape_many {k : Nat} (hk : 1 ≤ k) : ∀ {ls : Lv} {i : Nat}, Shape k i ls → ls ≠ [] → 2 ^ (ls.length - 1) ≤ tot ls
  | [], _, _, h => absurd rfl h
  | [l], _, h, _ => by have := h.1; simp [tot]; omega
  | l :: m :: ls, i, h, _ => by
    have := shape_many hk h.2.2 (by simp)
    rw [tot, List.length_cons, show (m :: ls).length + 1 - 1 = (m :: ls).length - 1 + 1 by simp, Nat.pow_succ]
    omega
theorem few_levels {k : Nat} (hk : 1 ≤ k) {ls : Lv} {i : Nat} (h : Shape k i ls) (ht : tot ls ≤ 4503599627370496) : ls.length ≤ 53 := by
  by_cases hn : ls = []
  · subst hn; simp
  · have := shape_many hk h hn
    rcases Nat.lt_or_ge 53 ls.length with h2 | h2
    · have h3 : 2 ^ 53 ≤ 2 ^ (ls.length - 1) := Nat.pow_le_pow_right (by omega) (by omega)
      omega
    · exact h2

/-- What Add answers: an error's number, or 0. -/
def may (k : Int) : Bool := decide (2 ≤ k ∧ k ≤ 1024)
def code (ls : Lv) (t n : Nat) : Nat :=
  if n = 0 then 1 else if 9223372036854775807 < t ∨ t < (lastOf ls).getD 0 then 6 else if 4503599627370496 < n ∨ 4503599627370496 < n + tot ls then 5 else 0

/-- A histogram that was made: its shape, its turn, its units. -/
structure Made (k : Nat) (ls : Lv) : Prop where
  k2 : 2 ≤ k
  k1 : k ≤ 1024
  ok : Ok k ls
  small : tot ls ≤ 4503599627370496
theorem Made.nil {k : Nat} (h : 2 ≤ k) (h1 : k ≤ 1024) : Made k [] := ⟨h, h1, Ok.nil k, by simp [tot]⟩
theorem Made.len {k : Nat} {ls : Lv} (h : Made k ls) : ls.length ≤ 53 := few_levels (by have := h.k2; omega) h.ok.shape h.small
theorem Made.few {k : Nat} {ls : Lv} (h : Made k ls) : Few k 0 ls := h.ok.few
theorem Made.lev {k : Nat} {ls : Lv} (h : Made k ls) (i : Nat) : (lev ls i).length ≤ 1026 := by
  have h1 := few_lev i h.few
  have h2 := rm_le k (0 + i)
  have := h.k1
  omega
theorem Made.add {k : Nat} {ls : Lv} (h : Made k ls) {t n : Nat} (hc : code ls t n = 0) : Made k (addW k ls t n) := by
  unfold code at hc
  split at hc
  · omega
  split at hc
  · omega
  split at hc
  · omega
  refine ⟨h.k2, h.k1, h.ok.add (by have := h.k2; omega) t n ?_, ?_⟩
  · intro last hl
    rename_i h2 _
    rw [hl] at h2
    simp at h2
    omega
  · rw [addW_tot]
    omega

/-- A level's units and those behind it. -/
theorem tot_lev : ∀ (ls : Lv) (i : Nat), totFrom 0 (ls.take i) + totFrom i (ls.drop i) = tot ls := by
  intro ls i
  rcases Nat.lt_or_ge ls.length i with h | h
  · rw [List.take_of_length_le (by omega), List.drop_of_length_le (by omega), totFrom]
    exact tot_eq ls
  · have := totFrom_app (ls.take i) (ls.drop i) 0
    rw [List.take_append_drop, List.length_take, Nat.min_eq_left h, Nat.zero_add] at this
    rw [← this]
    exact tot_eq ls
theorem totFrom_take {ls : Lv} {i : Nat} (h : i < ls.length) : totFrom 0 (ls.take (i + 1)) = totFrom 0 (ls.take i) + ls[i].length * 2 ^ i := by
  rw [List.take_succ_eq_append_getElem h, totFrom_app, List.length_take, Nat.min_eq_left (by omega), Nat.zero_add]
  simp [totFrom]
theorem totFrom_le (ls : Lv) (i : Nat) : totFrom 0 (ls.take i) ≤ tot ls := by have := tot_lev ls i; omega

/-! ### Round by round: what stands there at round i -/

/-- At round i so much comes to the level i, and R is what all that makes. -/
structure At (k : Nat) (ls : Lv) (t : Nat) (R : Lv) (i : Nat) (come : List Sp) (many : Nat) : Prop where
  rest : R.drop i = addL k i (ls.drop i) (full come t many)
  few : come.length ≤ 2000
  most : many ≤ 4503599627370496
theorem At.start (k : Nat) (ls : Lv) (t n : Nat) (hn : n ≤ 4503599627370496) : At k ls t (addW k ls t n) 0 [] n := ⟨by simp [addW, full], by simp, hn⟩
theorem full_nil {come : List Sp} {t many : Nat} : full come t many = [] ↔ come.length = 0 ∧ many = 0 := by simp [full]

theorem full_app (l come : List Sp) (t many : Nat) : l ++ full come t many = full (l ++ come) t many := by simp [full]
/-- The round: what stays is the level i of R, and what goes comes to the next. -/
theorem At.next {k : Nat} {ls R : Lv} {t i many : Nat} {come : List Sp} (h : At k ls t R i come many) (hl : (lev ls i).length ≤ 1026) (hgo : full come t many ≠ [] ∨ i < ls.length) :
    i < R.length ∧ lev R i = stay (lev ls i ++ come) t many (rm k i) ∧ At k ls t R (i + 1) (went (lev ls i ++ come) t many (rm k i)) (leftN (lev ls i ++ come).length many (rm k i)) := by
  have e := h.rest
  rw [addL_step k i ls _ hgo, full_app, ← stay_full _ _ _ _ (rm_pos k i), ← went_full_list _ _ _ _ (rm_pos k i)] at e
  have hi : i < R.length := by
    rcases Nat.lt_or_ge i R.length with hi | hi
    · exact hi
    · rw [List.drop_of_length_le hi] at e
      cases e
  rw [drop_lev hi] at e
  injection e with e1 e2
  refine ⟨hi, e1, ⟨e2, ?_, ?_⟩⟩
  · rw [Lm.went_len]
    have h1 := Lm.wentN_half (lev ls i ++ come).length many (rm k i)
    have h2 := h.few
    rw [List.length_append] at h1 ⊢
    omega
  · have h1 := Lm.leftN_le (lev ls i ++ come).length many (rm k i) (rm_pos k i)
    have h2 := h.most
    omega
/-- Nothing comes any more: the levels from here on are as they were. -/
theorem At.done {k : Nat} {ls R : Lv} {t i many : Nat} {come : List Sp} (h : At k ls t R i come many) (hf : Few k 0 ls) (hz : full come t many = []) : R.drop i = ls.drop i := by
  rw [h.rest, hz]
  have := few_drop i hf
  rw [Nat.zero_add] at this
  exact addL_none k _ i this
theorem At.over {k : Nat} {ls R : Lv} {t i many : Nat} {come : List Sp} (h : At k ls t R i come many) (hi : ls.length ≤ i) (hz : full come t many = []) : R.length ≤ i := by
  have e := h.rest
  rw [hz, List.drop_of_length_le hi, addL, newL_nil] at e
  have := congrArg List.length e
  simp at this
  omega

end Go.Proofs.Lh
end
section
/- Plain mathematics of buckets that are too old: what is dropped, and what stays. -/
namespace Go.Proofs.Lh
open Go.Proofs.Lm (Sp Turn)

/-- Whether a tick is old. -/
def oldB (t f w : Nat) : Bool := decide (t + w ≤ f)
/-- What stays of a level. -/
def cutL (f w : Nat) (l : List Sp) : List Sp := l.filter fun x => !oldB x.2 f w
/-- Without the levels behind the last one that has a bucket. -/
def trim : Lv → Lv
  | [] => []
  | l :: ls => if l = [] ∧ trim ls = [] then [] else l :: trim ls
def dropL (f w : Nat) (L : Lv) : Lv := trim (L.map (cutL f w))

theorem cutL_nil (f w : Nat) : cutL f w [] = [] := rfl
theorem cutL_len (f w : Nat) (l : List Sp) : (cutL f w l).length ≤ l.length := List.length_filter_le _ _
theorem trim_tot : ∀ M : Lv, tot (trim M) = tot M
  | [] => rfl
  | l :: ls => by
    rw [trim]
    split
    · rename_i h
      have := trim_tot ls
      rw [h.2] at this
      have e : tot (l :: ls) = l.length + 2 * tot ls := rfl
      rw [e, h.1, ← this]
      rfl
    · rw [tot, tot, trim_tot ls]
theorem trim_all : ∀ M : Lv, allOf (trim M) = allOf M
  | [] => rfl
  | l :: ls => by
    rw [trim]
    split
    · rename_i h
      have := trim_all ls
      rw [h.2] at this
      have e : allOf (l :: ls) = allOf ls ++ l := rfl
      rw [e, h.1, ← this]
      rfl
    · rw [allOf, allOf, trim_all ls]
theorem all_cut (f w : Nat) : ∀ L : Lv, allOf (L.map (cutL f w)) = cutL f w (allOf L)
  | [] => rfl
  | l :: ls => by
    rw [List.map_cons, allOf, allOf, all_cut f w ls]
    unfold cutL
    rw [List.filter_append]
/-- Cut once more, behind a trim. -/
theorem trim_map (c : List Sp → List Sp) (hc : c [] = []) : ∀ M : Lv, trim ((trim M).map c) = trim (M.map c)
  | [] => rfl
  | l :: ls => by
    have ih := trim_map c hc ls
    rw [trim]
    split
    · rename_i h
      rw [List.map_cons, trim, h.1, hc]
      rw [h.2] at ih
      rw [if_pos ⟨rfl, by rw [← ih]; rfl⟩]
      rfl
    · rw [List.map_cons, List.map_cons, trim, trim, ih]
theorem cut_cut (f g w : Nat) (l : List Sp) : cutL g w (cutL f w l) = cutL (max f g) w l := by
  unfold cutL
  rw [List.filter_filter]
  congr 1
  funext x
  unfold oldB
  rw [← Bool.not_or, ← Bool.decide_or]
  congr 1
  rw [decide_eq_decide]
  omega
/-- Dropped by two fronts it is as dropped by the later one. -/
theorem drop_drop (f g w : Nat) (L : Lv) : dropL g w (dropL f w L) = dropL (max f g) w L := by
  unfold dropL
  rw [trim_map _ (cutL_nil g w), List.map_map]
  congr 2
  funext l
  exact cut_cut f g w l

/-- Levels without an empty one at their end stay. -/
theorem trim_full {k : Nat} (hk : 1 ≤ k) : ∀ {L : Lv} {i : Nat}, Shape k i L → trim L = L
  | [], _, _ => rfl
  | l :: ls, i, h => by
    have h1 := shape_head hk h
    have h2 : trim ls = ls := by
      cases ls with
      | nil => rfl
      | cons m ls => exact trim_full hk h.2.2
    rw [trim, h2, if_neg]
    rintro ⟨e, _⟩
    rw [e] at h1
    simp at h1
theorem cut_all {f w : Nat} {l : List Sp} (h : ∀ x ∈ l, oldB x.2 f w = false) : cutL f w l = l := by
  unfold cutL
  rw [List.filter_eq_self]
  intro x hx
  rw [h x hx]
  rfl
theorem mem_all : ∀ {L : Lv} {l : List Sp} {x : Sp}, l ∈ L → x ∈ l → x ∈ allOf L
  | m :: ls, l, x, hl, hx => by
    rw [allOf, List.mem_append]
    rcases List.mem_cons.1 hl with rfl | hl
    · exact .inr hx
    · exact .inl (mem_all hl hx)
theorem trim_nil {M : Lv} (h : trim M = []) : ∀ l ∈ M, l = [] := by
  induction M with
  | nil => intro l hl; cases hl
  | cons m ls ih =>
    rw [trim] at h
    split at h
    · rename_i h2
      intro l hl
      rcases List.mem_cons.1 hl with rfl | hl
      · exact h2.1
      · exact ih h2.2 l hl
    · cases h
theorem trim_ne {M : Lv} (h : trim M ≠ []) : ∃ l ∈ M, l ≠ [] := by
  induction M with
  | nil => exact absurd rfl h
  | cons m ls ih =>
    rw [trim] at h
    by_cases hm : m = []
    · by_cases hl : trim ls = []
      · rw [if_pos ⟨hm, hl⟩] at h
        exact absurd rfl h
      · obtain ⟨l, h1, h2⟩ := ih hl
        exact ⟨l, List.mem_cons_of_mem _ h1, h2⟩
    · exact ⟨m, List.mem_cons_self, hm⟩
/-- What stays keeps the shape. -/
theorem drop_shape {k : Nat} (hk : 1 ≤ k) (f w : Nat) : ∀ {L : Lv} {i : Nat}, Shape k i L → Turn (allOf L) → Shape k i (dropL f w L)
  | [], _, _, _ => trivial
  | l :: ls, i, hs, ht => by
    have hls : Shape k (i + 1) ls := by
      cases ls with
      | nil => trivial
      | cons m ls => exact hs.2.2
    have htt := ht
    rw [allOf] at htt
    obtain ⟨t1, t2, t3⟩ := turn_app.1 htt
    have ih := drop_shape hk f w hls t1
    have hle : l.length ≤ rm k i := by
      cases ls with
      | nil => exact hs.2
      | cons m ls => exact hs.2.1
    have h1 := shape_head hk hs
    unfold dropL at ih ⊢
    rw [List.map_cons, trim]
    by_cases hz : trim (ls.map (cutL f w)) = []
    · by_cases hc : cutL f w l = []
      · rw [if_pos ⟨hc, hz⟩]
        trivial
      · rw [if_neg (fun h => hc h.1), hz]
        exact ⟨by have := List.length_pos_iff.2 hc; omega, Nat.le_trans (cutL_len f w l) hle⟩
    · -- some bucket of a level above stays: then all of this level, which is later, stays
      obtain ⟨l', hl', hn⟩ := trim_ne hz
      obtain ⟨m, hm, rfl⟩ := List.mem_map.1 hl'
      obtain ⟨y, hy⟩ := List.exists_mem_of_ne_nil _ hn
      unfold cutL at hy
      rw [List.mem_filter] at hy
      have hya : y ∈ allOf ls := mem_all hm hy.1
      have hyo : oldB y.2 f w = false := by simpa using hy.2
      have hall : cutL f w l = l := cut_all fun x hx => by
        have h2 := t3 y hya x hx
        have h3 := t2.1 x hx
        unfold oldB at hyo ⊢
        rw [decide_eq_false_iff_not] at hyo ⊢
        omega
      rw [if_neg (fun h => hz h.2), hall]
      refine shape_cons ih h1 hle fun _ => ?_
      cases ls with
      | nil => exact absurd rfl hz
      | cons m ls => exact hs.1
theorem turn_sub {xs ys : List Sp} (h : Turn ys) (hs : xs.Sublist ys) : Turn xs := ⟨fun x hx => h.1 x (hs.subset hx), h.2.sublist hs⟩
theorem drop_turn (f w : Nat) {L : Lv} (h : Turn (allOf L)) : Turn (allOf (dropL f w L)) := by
  unfold dropL
  rw [trim_all, all_cut]
  exact turn_sub h List.filter_sublist
theorem drop_flat (f w : Nat) {L : Lv} (h : flat L) : flat (dropL f w L) := by
  cases L with
  | nil => trivial
  | cons l ls =>
    unfold dropL
    rw [List.map_cons, trim]
    split
    · trivial
    · intro x hx
      exact h x (List.mem_filter.1 hx).1
theorem tot_cut (f w : Nat) : ∀ L : Lv, tot (L.map (cutL f w)) ≤ tot L
  | [] => Nat.le_refl _
  | l :: ls => by
    have h1 := cutL_len f w l
    have h2 := tot_cut f w ls
    rw [List.map_cons, tot, tot]
    omega
theorem drop_tot (f w : Nat) (L : Lv) : tot (dropL f w L) ≤ tot L := by
  unfold dropL
  rw [trim_tot]
  exact tot_cut f w L
/-- It is a histogram that was made. -/
theorem Made.drop {k : Nat} {L : Lv} (h : Made k L) (f w : Nat) : Made k (dropL f w L) :=
  ⟨h.k2, h.k1, ⟨drop_shape (by have := h.k2; omega) f w h.ok.shape h.ok.turn, drop_turn f w h.ok.turn, drop_flat f w h.ok.flat⟩, Nat.le_trans (drop_tot f w L) h.small⟩
/-- A larger window, an earlier front: as much, or more. -/
theorem cut_later {f g v w : Nat} (hf : g ≤ f) (hw : v ≤ w) (l : List Sp) : (cutL f v l).length ≤ (cutL g w l).length := by
  induction l with
  | nil => exact Nat.le_refl _
  | cons x l ih =>
    unfold cutL at ih ⊢
    rw [List.filter_cons, List.filter_cons]
    cases h1 : oldB x.2 f v with
    | true =>
      cases h2 : oldB x.2 g w with
      | true => simpa using ih
      | false => simp; omega
    | false =>
      have h2 : oldB x.2 g w = false := by
        unfold oldB at h1 ⊢
        rw [decide_eq_false_iff_not] at h1 ⊢
        omega
      rw [h2]
      simpa using ih
theorem drop_later {f g v w : Nat} (hf : g ≤ f) (hw : v ≤ w) (L : Lv) : tot (dropL f v L) ≤ tot (dropL g w L) := by
  unfold dropL
  rw [trim_tot, trim_tot]
  induction L with
  | nil => exact Nat.le_refl _
  | cons l ls ih =>
    have := cut_later hf hw l
    rw [List.map_cons, List.map_cons, tot, tot]
    omega
/-- Nothing is old: all stays. -/
theorem drop_none {k : Nat} (hk : 1 ≤ k) {L : Lv} {f w : Nat} (hs : Shape k 0 L) (h : f < w) : dropL f w L = L := by
  unfold dropL
  have : L.map (cutL f w) = L := by
    conv => rhs; rw [← List.map_id L]
    refine List.map_congr_left fun l _ => cut_all fun x _ => ?_
    unfold oldB
    rw [decide_eq_false_iff_not]
    omega
  rw [this]
  exact trim_full hk hs
/-- The old ones of buckets in turn are the first ones. -/
def olds (f w : Nat) (l : List Sp) : Nat := l.length - (cutL f w l).length
theorem cut_drop (f w : Nat) : ∀ {l : List Sp}, Turn l → cutL f w l = l.drop (olds f w l) ∧ ∀ j (hj : j < l.length), oldB l[j].2 f w = decide (j < olds f w l)
  | [], _ => ⟨rfl, fun j hj => absurd hj (by simp)⟩
  | x :: l, h => by
    have hl : Turn l := turn_sub h (List.sublist_cons_self x l)
    obtain ⟨h1, h2⟩ := cut_drop f w hl
    have hle := cutL_len f w l
    cases hx : oldB x.2 f w with
    | true =>
      have e : cutL f w (x :: l) = cutL f w l := by unfold cutL; rw [List.filter_cons, hx]; rfl
      have eo : olds f w (x :: l) = olds f w l + 1 := by unfold olds; rw [e, List.length_cons]; omega
      rw [e, eo]
      refine ⟨by rw [List.drop_succ_cons]; exact h1, fun j hj => ?_⟩
      cases j with
      | zero => simpa using hx
      | succ j =>
        have := h2 j (by simpa using hj)
        simp only [List.getElem_cons_succ]
        rw [this, decide_eq_decide]
        omega
    | false =>
      have hall : ∀ y ∈ x :: l, oldB y.2 f w = false := by
        intro y hy
        rcases List.mem_cons.1 hy with rfl | hy
        · exact hx
        · have h3 := (List.pairwise_cons.1 h.2).1 y hy
          have h4 := h.1 y (List.mem_cons_of_mem _ hy)
          unfold oldB at hx ⊢
          rw [decide_eq_false_iff_not] at hx ⊢
          omega
      have e : cutL f w (x :: l) = x :: l := cut_all hall
      have eo : olds f w (x :: l) = 0 := by unfold olds; rw [e]; omega
      rw [e, eo]
      refine ⟨rfl, fun j hj => ?_⟩
      rw [hall _ (List.getElem_mem hj)]
      simp

end Go.Proofs.Lh
end
