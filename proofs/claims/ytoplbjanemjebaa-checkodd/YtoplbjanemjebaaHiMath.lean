/- Plain mathematics of histograms: levels of buckets, what comes to them, units, the shape, the turn. -/
import Derived.Test.YtoplbjanemjebaaLMath
namespace Go.Proofs.Lh
open Go.Proofs.Lm (Sp el two pairs wentN stayN leftN went stay Turn)

/-- How many pairs go of so many. -/
def prs (n room : Nat) : Nat := (n - room + 1) / 2
/-- What stays of a level's buckets, and what goes. -/
def stayL (xs : List Sp) (room : Nat) : List Sp := xs.drop (2 * prs xs.length room)
def pairUp : List Sp → List Sp
  | a :: b :: r => (a.1, b.2) :: pairUp r
  | _ => []
def wentL (xs : List Sp) (room : Nat) : List Sp := pairUp (xs.take (2 * prs xs.length room))

theorem pairUp_len : ∀ xs : List Sp, (pairUp xs).length = xs.length / 2
  | [] => rfl
  | [_] => by simp [pairUp]
  | _ :: _ :: r => by simp only [pairUp, List.length_cons, pairUp_len r]; omega
theorem pairUp_app : ∀ (xs ys : List Sp), xs.length % 2 = 0 → pairUp (xs ++ ys) = pairUp xs ++ pairUp ys
  | [], ys, _ => rfl
  | [_], _, h => by simp at h
  | a :: b :: r, ys, h => by
    simp only [List.cons_append, pairUp]
    rw [pairUp_app r ys (by simp at h; omega)]
theorem pairUp_get : ∀ (xs : List Sp) (i : Nat) (h : 2 * i + 1 < xs.length), (pairUp xs)[i]? = some (xs[2 * i].1, xs[2 * i + 1].2)
  | [], _, h => by simp at h
  | [_], _, h => by simp at h
  | a :: b :: r, 0, _ => rfl
  | a :: b :: r, i + 1, h => by
    simp only [pairUp, List.getElem?_cons_succ]
    rw [pairUp_get r i (by simp at h; omega)]
    simp [show 2 * (i + 1) = 2 * i + 1 + 1 by omega]
theorem prs_le (n room : Nat) (h : 1 ≤ room) : 2 * prs n room ≤ n := by unfold prs; omega
theorem stayL_len (xs : List Sp) (room : Nat) : (stayL xs room).length = xs.length - 2 * prs xs.length room := by simp [stayL]
theorem wentL_len (xs : List Sp) (room : Nat) (h : 1 ≤ room) : (wentL xs room).length = prs xs.length room := by
  have := prs_le xs.length room h
  unfold wentL
  rw [pairUp_len, List.length_take]
  omega
theorem sumL (xs : List Sp) (room : Nat) (h : 1 ≤ room) : (stayL xs room).length + 2 * (wentL xs room).length = xs.length := by
  have := prs_le xs.length room h
  rw [stayL_len, wentL_len _ _ h]
  omega
theorem stayL_le (xs : List Sp) (room : Nat) : (stayL xs room).length ≤ room := by
  rw [stayL_len]
  unfold prs
  omega
theorem stayL_few {xs : List Sp} {room : Nat} (h : xs.length ≤ room) : stayL xs room = xs := by
  unfold stayL prs
  rw [show 2 * ((xs.length - room + 1) / 2) = 0 by omega, List.drop_zero]
theorem wentL_few {xs : List Sp} {room : Nat} (h : xs.length ≤ room) : wentL xs room = [] := by
  unfold wentL prs
  rw [show 2 * ((xs.length - room + 1) / 2) = 0 by omega, List.take_zero]
  rfl
theorem wentL_ne {xs : List Sp} {room : Nat} (hr : 1 ≤ room) (h : room < xs.length) : wentL xs room ≠ [] := by
  intro e
  have := wentL_len xs room hr
  rw [e] at this
  unfold prs at this
  simp at this
  omega
theorem stayL_least {xs : List Sp} {room : Nat} (h : room < xs.length) : room - 1 ≤ (stayL xs room).length := by
  rw [stayL_len]
  unfold prs
  omega

/-- Pushed in two, it is as pushed at once. -/
theorem stayL_app (xs ys : List Sp) (room : Nat) (hr : 1 ≤ room) : stayL (stayL xs room ++ ys) room = stayL (xs ++ ys) room := by
  have hp := prs_le xs.length room hr
  have e : prs (xs ++ ys).length room = prs xs.length room + prs (stayL xs room ++ ys).length room := by
    rw [List.length_append, List.length_append, stayL_len]
    unfold prs at *
    omega
  rw [show stayL (xs ++ ys) room = (xs ++ ys).drop (2 * prs (xs ++ ys).length room) from rfl, e, Nat.mul_add, ← List.drop_drop, List.drop_append_of_le_length (by omega)]
  rfl
theorem wentL_app (xs ys : List Sp) (room : Nat) (hr : 1 ≤ room) : wentL (xs ++ ys) room = wentL xs room ++ wentL (stayL xs room ++ ys) room := by
  have hp := prs_le xs.length room hr
  have e : prs (xs ++ ys).length room = prs xs.length room + prs (stayL xs room ++ ys).length room := by
    rw [List.length_append, List.length_append, stayL_len]
    unfold prs at *
    omega
  unfold wentL
  rw [← pairUp_app _ _ (by rw [List.length_take]; omega), e, Nat.mul_add, List.take_add, List.take_append_of_le_length (by omega), List.drop_append_of_le_length (by omega)]
  rfl

/-! ### What level.Push tells, as lists -/

def full (xs : List Sp) (t many : Nat) : List Sp := xs ++ List.replicate many (t, t)
theorem full_len (xs : List Sp) (t many : Nat) : (full xs t many).length = xs.length + many := by simp [full]
theorem full_get (xs : List Sp) (t many i : Nat) (h : i < xs.length + many) : (full xs t many)[i]? = some (el xs t i) := by
  unfold full el
  rcases Nat.lt_or_ge i xs.length with h1 | h1
  · rw [List.getElem?_append_left h1, List.getElem?_eq_getElem h1]
    rfl
  · rw [List.getElem?_append_right h1, List.getElem?_replicate, if_pos (by omega), List.getElem?_eq_none h1]
    rfl
theorem stay_full (xs : List Sp) (t many room : Nat) (hr : 1 ≤ room) : stay xs t many room = stayL (full xs t many) room := by
  have hp := Lm.pairs_le (n := xs.length) (many := many) hr
  apply List.ext_getElem?
  intro i
  unfold stayL
  rw [List.getElem?_drop, full_len]
  rw [show prs (xs.length + many) room = pairs xs.length many room from rfl]
  rcases Nat.lt_or_ge i (stayN xs.length many room) with h | h
  · rw [full_get _ _ _ _ (by unfold stayN at h; omega)]
    simp [stay, h]
  · rw [List.getElem?_eq_none (by rw [Lm.stay_len]; exact h), List.getElem?_eq_none (by rw [full_len]; unfold stayN at h; omega)]
theorem went_full_list (xs : List Sp) (t many room : Nat) (hr : 1 ≤ room) : full (went xs t many room) t (leftN xs.length many room) = wentL (full xs t many) room := by
  have hp := Lm.pairs_le (n := xs.length) (many := many) hr
  unfold full at *
  rw [Lm.went_full]
  have hw := wentL_len (full xs t many) room hr
  rw [full_len] at hw
  apply List.ext_getElem?
  intro i
  rcases Nat.lt_or_ge i (pairs xs.length many room) with h | h
  · rw [show (List.map (two xs t) (List.range (pairs xs.length many room)))[i]? = some (two xs t i) by simp [h]]
    unfold wentL
    have hl : ((full xs t many).take (2 * prs (full xs t many).length room)).length = 2 * pairs xs.length many room := by
      rw [List.length_take, full_len]
      show min (2 * pairs xs.length many room) _ = _
      omega
    have g := pairUp_get ((full xs t many).take (2 * prs (full xs t many).length room)) i (by omega)
    rw [show xs ++ List.replicate many (t, t) = full xs t many from rfl, g]
    have e1 := full_get xs t many (2 * i) (by omega)
    have e2 := full_get xs t many (2 * i + 1) (by omega)
    rw [List.getElem?_eq_getElem (by rw [full_len]; omega)] at e1 e2
    simp only [List.getElem_take]
    injection e1 with e1
    injection e2 with e2
    rw [e1, e2]
    rfl
  · rw [List.getElem?_eq_none (by simpa using h), List.getElem?_eq_none (by rw [show xs ++ List.replicate many (t, t) = full xs t many from rfl, hw]; exact h)]

/-! ### Levels -/

abbrev Lv := List (List Sp)

/-- How many buckets the level i may have. -/
def rm (k i : Nat) : Nat := if i = 0 then k + 1 else (k + 1) / 2 + 1
theorem rm_pos (k i : Nat) : 1 ≤ rm k i := by unfold rm; split <;> omega

theorem rm_two (k i : Nat) (h : 1 ≤ k) : 2 ≤ rm k i := by unfold rm; split <;> omega

theorem went_lt (xs : List Sp) (room : Nat) (hr : 1 ≤ room) (h : xs ≠ []) : (wentL xs room).length < xs.length := by
  have h1 := wentL_len xs room hr
  have h2 := prs_le xs.length room hr
  have : 0 < xs.length := List.length_pos_iff.2 h
  omega

/-- What comes behind all levels makes new ones. -/
def newL (k i : Nat) (come : List Sp) : Lv :=
  if h : come = [] then [] else stayL come (rm k i) :: newL k (i + 1) (wentL come (rm k i))
termination_by come.length
decreasing_by exact went_lt come (rm k i) (rm_pos k i) h

/-- Buckets that come to levels, from the level i on. -/
def addL (k : Nat) : Nat → Lv → List Sp → Lv
  | i, [], come => newL k i come
  | i, l :: ls, come => stayL (l ++ come) (rm k i) :: addL k (i + 1) ls (wentL (l ++ come) (rm k i))

theorem newL_nil (k i : Nat) : newL k i [] = [] := by rw [newL]; simp
theorem newL_ne (k i : Nat) {come : List Sp} (h : come ≠ []) : newL k i come = stayL come (rm k i) :: newL k (i + 1) (wentL come (rm k i)) := by rw [newL]; simp [h]

theorem newL_app (k : Nat) : ∀ (n i : Nat) (a b : List Sp), a.length + b.length ≤ n → newL k i (a ++ b) = addL k i (newL k i a) b := by
  intro n
  induction n with
  | zero =>
    intro i a b h
    have ha : a = [] := List.eq_nil_of_length_eq_zero (by omega)
    have hb : b = [] := List.eq_nil_of_length_eq_zero (by omega)
    subst ha hb
    rw [List.append_nil, newL_nil, addL, newL_nil]
  | succ n ih =>
    intro i a b h
    by_cases ha : a = []
    · subst ha
      rw [List.nil_append, newL_nil, addL]
    · have hr := rm_pos k i
      have hab : a ++ b ≠ [] := by simp [ha]
      rw [newL_ne k i hab, newL_ne k i ha, addL, stayL_app a b _ hr, wentL_app a b _ hr]
      have hal : 0 < a.length := List.length_pos_iff.2 ha
      have h1 := sumL (a ++ b) (rm k i) hr
      rw [wentL_app a b _ hr, List.length_append, List.length_append] at h1
      rw [ih (i + 1) _ _ (by omega)]

theorem addL_app (k : Nat) : ∀ (ls : Lv) (i : Nat) (a b : List Sp), addL k i ls (a ++ b) = addL k i (addL k i ls a) b
  | [], i, a, b => by rw [addL, addL]; exact newL_app k _ i a b (Nat.le_refl _)
  | l :: ls, i, a, b => by
    have hr := rm_pos k i
    rw [addL, addL, addL, ← List.append_assoc, stayL_app (l ++ a) b _ hr, wentL_app (l ++ a) b _ hr, addL_app k ls (i + 1)]

/-- No level has more than it may. -/
def Few (k : Nat) : Nat → Lv → Prop
  | _, [] => True
  | i, l :: ls => l.length ≤ rm k i ∧ Few k (i + 1) ls
theorem newL_few (k : Nat) : ∀ (n i : Nat) (come : List Sp), come.length ≤ n → Few k i (newL k i come) := by
  intro n
  induction n with
  | zero =>
    intro i come h
    have : come = [] := List.eq_nil_of_length_eq_zero (by omega)
    subst this
    rw [newL_nil]
    trivial
  | succ n ih =>
    intro i come h
    by_cases hc : come = []
    · subst hc
      rw [newL_nil]
      trivial
    · rw [newL_ne k i hc]
      have := went_lt come (rm k i) (rm_pos k i) hc
      exact ⟨stayL_le _ _, ih (i + 1) _ (by omega)⟩
theorem addL_few (k : Nat) : ∀ (ls : Lv) (i : Nat) (come : List Sp), Few k i (addL k i ls come)
  | [], i, come => by rw [addL]; exact newL_few k _ i come (Nat.le_refl _)
  | l :: ls, i, come => by rw [addL]; exact ⟨stayL_le _ _, addL_few k ls (i + 1) _⟩
theorem addL_none (k : Nat) : ∀ (ls : Lv) (i : Nat), Few k i ls → addL k i ls [] = ls
  | [], i, _ => by rw [addL, newL_nil]
  | l :: ls, i, h => by
    rw [addL, List.append_nil, stayL_few h.1, wentL_few h.1, addL_none k ls (i + 1) h.2]

/-! ### No unit is lost -/

/-- All units, of buckets of one unit on the first level. -/
def tot : Lv → Nat
  | [] => 0
  | l :: ls => l.length + 2 * tot ls
theorem newL_tot (k : Nat) : ∀ (n i : Nat) (come : List Sp), come.length ≤ n → tot (newL k i come) = come.length := by
  intro n
  induction n with
  | zero =>
    intro i come h
    have : come = [] := List.eq_nil_of_length_eq_zero (by omega)
    subst this
    rw [newL_nil]
    rfl
  | succ n ih =>
    intro i come h
    by_cases hc : come = []
    · subst hc
      rw [newL_nil]
      rfl
    · have h1 := went_lt come (rm k i) (rm_pos k i) hc
      have h2 := sumL come (rm k i) (rm_pos k i)
      rw [newL_ne k i hc, tot, ih (i + 1) _ (by omega)]
      omega
theorem addL_tot (k : Nat) : ∀ (ls : Lv) (i : Nat) (come : List Sp), tot (addL k i ls come) = tot ls + come.length
  | [], i, come => by rw [addL, newL_tot k _ i come (Nat.le_refl _), tot]; omega
  | l :: ls, i, come => by
    have h2 := sumL (l ++ come) (rm k i) (rm_pos k i)
    rw [List.length_append] at h2
    rw [addL, tot, addL_tot k ls (i + 1), tot]
    omega
/-- The same, by powers, as it is counted level by level. -/
def totFrom : Nat → Lv → Nat
  | _, [] => 0
  | i, l :: ls => l.length * 2 ^ i + totFrom (i + 1) ls
theorem totFrom_eq : ∀ (ls : Lv) (i : Nat), totFrom i ls = 2 ^ i * tot ls
  | [], i => by simp [totFrom, tot]
  | l :: ls, i => by
    rw [totFrom, totFrom_eq ls (i + 1), tot, Nat.pow_succ, Nat.mul_add, Nat.mul_comm l.length, Nat.mul_assoc]
theorem tot_eq (ls : Lv) : totFrom 0 ls = tot ls := by rw [totFrom_eq]; simp
theorem totFrom_app : ∀ (a b : Lv) (i : Nat), totFrom i (a ++ b) = totFrom i a + totFrom (i + a.length) b
  | [], b, i => by simp [totFrom]
  | l :: a, b, i => by
    rw [List.cons_append, totFrom, totFrom, totFrom_app a b (i + 1), List.length_cons, show i + 1 + a.length = i + (a.length + 1) by omega]
    omega

/-! ### The shape -/

/-- Each level below the last one has as many as must be, or one more; the last one has some, and no more than may be. -/
def Shape (k : Nat) : Nat → Lv → Prop
  | _, [] => True
  | i, [l] => 1 ≤ l.length ∧ l.length ≤ rm k i
  | i, l :: m :: ls => rm k i - 1 ≤ l.length ∧ l.length ≤ rm k i ∧ Shape k (i + 1) (m :: ls)
theorem shape_cons {k i : Nat} {l : List Sp} {r : Lv} (hr : Shape k (i + 1) r) (h1 : 1 ≤ l.length) (h2 : l.length ≤ rm k i) (h3 : r ≠ [] → rm k i - 1 ≤ l.length) : Shape k i (l :: r) := by
  cases r with
  | nil => exact ⟨h1, h2⟩
  | cons m ls => exact ⟨h3 (by simp), h2, hr⟩
theorem newL_shape (k : Nat) (hk : 1 ≤ k) : ∀ (n i : Nat) (come : List Sp), come.length ≤ n → Shape k i (newL k i come) := by
  intro n
  induction n with
  | zero =>
    intro i come h
    have : come = [] := List.eq_nil_of_length_eq_zero (by omega)
    subst this
    rw [newL_nil]
    trivial
  | succ n ih =>
    intro i come h
    by_cases hc : come = []
    · subst hc
      rw [newL_nil]
      trivial
    · have hl : 0 < come.length := List.length_pos_iff.2 hc
      have h1 := went_lt come (rm k i) (rm_pos k i) hc
      have h2 := rm_two k i hk
      rw [newL_ne k i hc]
      refine shape_cons (ih (i + 1) _ (by omega)) ?_ (stayL_le _ _) ?_
      · rcases Nat.lt_or_ge (rm k i) come.length with h | h
        · have := stayL_least h
          omega
        · rw [stayL_few h]
          exact hl
      · intro hne
        rcases Nat.lt_or_ge (rm k i) come.length with h | h
        · exact stayL_least h
        · rw [wentL_few h, newL_nil] at hne
          exact absurd rfl hne
theorem addL_shape (k : Nat) (hk : 1 ≤ k) : ∀ (ls : Lv) (i : Nat) (come : List Sp), Shape k i ls → Shape k i (addL k i ls come)
  | [], i, come, _ => by rw [addL]; exact newL_shape k hk _ i come (Nat.le_refl _)
  | [l], i, come, h => by
    have h2 := rm_two k i hk
    rw [addL]
    refine shape_cons (addL_shape k hk [] (i + 1) _ trivial) ?_ (stayL_le _ _) ?_
    · rcases Nat.lt_or_ge (rm k i) (l ++ come).length with h' | h'
      · have := stayL_least h'
        omega
      · rw [stayL_few h', List.length_append]
        have := h.1
        omega
    · intro hne
      rcases Nat.lt_or_ge (rm k i) (l ++ come).length with h' | h'
      · exact stayL_least h'
      · rw [wentL_few h', addL, newL_nil] at hne
        exact absurd rfl hne
  | l :: m :: ls, i, come, h => by
    have h2 := rm_two k i hk
    rw [addL]
    have hle : rm k i - 1 ≤ (stayL (l ++ come) (rm k i)).length := by
      rcases Nat.lt_or_ge (rm k i) (l ++ come).length with h' | h'
      · exact stayL_least h'
      · rw [stayL_few h', List.length_append]
        have := h.1
        omega
    exact shape_cons (addL_shape k hk (m :: ls) (i + 1) _ h.2.2) (by omega) (stayL_le _ _) (fun _ => hle)
theorem shape_few {k : Nat} : ∀ {ls : Lv} {i : Nat}, Shape k i ls → Few k i ls
  | [], _, _ => trivial
  | [_], _, h => ⟨h.2, trivial⟩
  | _ :: _ :: _, _, h => ⟨h.2.1, shape_few h.2.2⟩
theorem shape_head {k i : Nat} {l : List Sp} {ls : Lv} (hk : 1 ≤ k) (h : Shape k i (l :: ls)) : 1 ≤ l.length := by
  have := rm_two k i hk
  cases ls with
  | nil => exact h.1
  | cons m ls => have := h.1; omega

/-! ### The turn -/

/-- All buckets, the oldest ones, of the last level, first. -/
def allOf : Lv → List Sp
  | [] => []
  | l :: ls => allOf ls ++ l

theorem turn_app {xs ys : List Sp} : Turn (xs ++ ys) ↔ Turn xs ∧ Turn ys ∧ ∀ x ∈ xs, ∀ y ∈ ys, x.2 ≤ y.1 := by
  unfold Turn
  rw [List.pairwise_append]
  constructor
  · rintro ⟨h1, h2, h3, h4⟩
    exact ⟨⟨fun x hx => h1 x (List.mem_append_left _ hx), h2⟩, ⟨fun x hx => h1 x (List.mem_append_right _ hx), h3⟩, h4⟩
  · rintro ⟨⟨h1, h2⟩, ⟨h3, h4⟩, h5⟩
    exact ⟨fun x hx => (List.mem_append.1 hx).elim (h1 x) (h3 x), h2, h4, h5⟩
/-- Two that stand side by side, as one. -/
theorem pairUp_turn : ∀ (xs pre suf : List Sp), xs.length % 2 = 0 → Turn (pre ++ (xs ++ suf)) → Turn (pre ++ (pairUp xs ++ suf))
  | [], pre, suf, _, h => h
  | [_], _, _, hl, _ => by simp at hl
  | a :: b :: r, pre, suf, hl, h => by
    have hr := pairUp_turn r (pre ++ [(a.1, b.2)]) suf (by simp at hl; omega) ?_
    · simpa [pairUp] using hr
    · rw [List.append_assoc, List.singleton_append]
      obtain ⟨h1, h2, h3⟩ := turn_app.1 h
      have e : (a :: b :: r) ++ suf = [a, b] ++ (r ++ suf) := rfl
      rw [e] at h2 h3
      obtain ⟨h4, h5, h6⟩ := turn_app.1 h2
      have hab : a.2 ≤ b.1 := by
        have := h4.2
        simp at this
        exact this
      have ha := h4.1 a (by simp)
      have hb := h4.1 b (by simp)
      refine turn_app.2 ⟨h1, ?_, ?_⟩
      · have : (a.1, b.2) :: (r ++ suf) = [(a.1, b.2)] ++ (r ++ suf) := rfl
        rw [this]
        refine turn_app.2 ⟨⟨by simp; omega, by simp⟩, h5, ?_⟩
        intro x hx y hy
        rw [List.mem_singleton.1 hx]
        exact h6 b (by simp) y hy
      · intro x hx y hy
        rcases List.mem_cons.1 hy with rfl | hy
        · exact h3 x hx a (by simp)
        · exact h3 x hx y (List.mem_append_right _ hy)
theorem push_turn (xs pre suf : List Sp) (room : Nat) (hr : 1 ≤ room) (h : Turn (pre ++ (xs ++ suf))) : Turn (pre ++ (wentL xs room ++ (stayL xs room ++ suf))) := by
  have hp := prs_le xs.length room hr
  unfold wentL stayL
  refine pairUp_turn _ pre _ (by rw [List.length_take]; omega) ?_
  rw [← List.append_assoc (List.take _ xs), List.take_append_drop]
  exact h
theorem newL_turn (k : Nat) : ∀ (n i : Nat) (come suf : List Sp), come.length ≤ n → Turn (come ++ suf) → Turn (allOf (newL k i come) ++ suf) := by
  intro n
  induction n with
  | zero =>
    intro i come suf h ht
    have : come = [] := List.eq_nil_of_length_eq_zero (by omega)
    subst this
    rw [newL_nil]
    exact ht
  | succ n ih =>
    intro i come suf h ht
    by_cases hc : come = []
    · subst hc
      rw [newL_nil]
      exact ht
    · have h1 := went_lt come (rm k i) (rm_pos k i) hc
      rw [newL_ne k i hc, allOf, List.append_assoc]
      exact ih (i + 1) _ _ (by omega) (push_turn come [] suf (rm k i) (rm_pos k i) ht)
theorem addL_turn (k : Nat) : ∀ (ls : Lv) (i : Nat) (come suf : List Sp), Turn (allOf ls ++ (come ++ suf)) → Turn (allOf (addL k i ls come) ++ suf)
  | [], i, come, suf, h => by rw [addL]; exact newL_turn k _ i come suf (Nat.le_refl _) h
  | l :: ls, i, come, suf, h => by
    rw [addL, allOf, List.append_assoc]
    refine addL_turn k ls (i + 1) _ _ ?_
    refine push_turn (l ++ come) (allOf ls) suf (rm k i) (rm_pos k i) ?_
    rw [allOf, List.append_assoc] at h
    rw [List.append_assoc]
    exact h

/-! ### Units, one by one -/

theorem one_push (l : List Sp) (room : Nat) (s : Sp) (h : l.length ≤ room) (hr : 1 ≤ room) : Lm.one l room s = (stayL (l ++ [s]) room, wentL (l ++ [s]) room) := by
  unfold Lm.one
  by_cases h1 : (l ++ [s]).length ≤ room
  · rw [if_pos h1, stayL_few h1, wentL_few h1]
  · rw [if_neg h1]
    have hl : (l ++ [s]).length = room + 1 := by rw [List.length_append] at *; simp at *; omega
    have hp : prs (l ++ [s]).length room = 1 := by unfold prs; omega
    unfold stayL wentL
    rw [hp]
    match hm : l ++ [s], hl with
    | [], h => simp at h
    | [_], h => simp at h; omega
    | a :: b :: r, _ => simp [pairUp]

/-- Weight at once: so many units of a tick. -/
def addW (k : Nat) (ls : Lv) (t n : Nat) : Lv := addL k 0 ls (List.replicate n (t, t))
theorem addW_succ (k : Nat) (ls : Lv) (t n : Nat) : addW k ls t (n + 1) = addL k 0 (addW k ls t n) [(t, t)] := by
  unfold addW
  rw [List.replicate_succ', addL_app]
theorem addW_tot (k : Nat) (ls : Lv) (t n : Nat) : tot (addW k ls t n) = tot ls + n := by
  unfold addW
  rw [addL_tot, List.length_replicate]

/-! ### What was made -/

/-- The To of the last bucket of the first level. -/
def lastOf : Lv → Option Nat
  | [] => none
  | l :: _ => l.getLast?.map (·.2)
/-- Buckets of the first level are of one tick each. -/
def flat : Lv → Prop
  | [] => True
  | l :: _ => ∀ x ∈ l, x.1 = x.2
/-- What a histogram that was made keeps to. -/
structure Ok (k : Nat) (ls : Lv) : Prop where
  shape : Shape k 0 ls
  turn : Turn (allOf ls)
  flat : flat ls

theorem Ok.nil (k : Nat) : Ok k [] := ⟨trivial, Lm.Turn.nil, trivial⟩
theorem stayL_sub (xs : List Sp) (room : Nat) {x : Sp} (h : x ∈ stayL xs room) : x ∈ xs := List.mem_of_mem_drop h
theorem stayL_last (xs : List Sp) (room : Nat) (h : stayL xs room ≠ []) : (stayL xs room).getLast? = xs.getLast? := by
  unfold stayL at *
  rw [List.getLast?_drop, if_neg]
  intro e
  exact h (List.drop_of_length_le e)
theorem addW_flat (k : Nat) (ls : Lv) (t n : Nat) (h : flat ls) : flat (addW k ls t n) := by
  unfold addW
  cases ls with
  | nil =>
    rw [addL]
    by_cases hc : List.replicate n (t, t) = []
    · rw [hc, newL_nil]
      trivial
    · rw [newL_ne k 0 hc]
      intro x hx
      rw [(List.mem_replicate.1 (stayL_sub _ _ hx)).2]
  | cons l ls =>
    rw [addL]
    intro x hx
    rcases List.mem_append.1 (stayL_sub _ _ hx) with hx | hx
    · exact h x hx
    · rw [(List.mem_replicate.1 hx).2]
theorem addW_last (k : Nat) (hk : 1 ≤ k) (ls : Lv) (t n : Nat) (hs : Shape k 0 ls) (hn : 1 ≤ n) : lastOf (addW k ls t n) = some t := by
  have hsh := addL_shape k hk ls 0 (List.replicate n (t, t)) hs
  have hr : List.replicate n (t, t) ≠ [] := by simp; omega
  unfold addW
  cases ls with
  | nil =>
    rw [addL, newL_ne k 0 hr] at hsh ⊢
    have h1 := shape_head hk hsh
    rw [lastOf, stayL_last _ _ (by intro e; rw [e] at h1; simp at h1), List.getLast?_replicate, if_neg (by omega)]
    rfl
  | cons l ls =>
    rw [addL] at hsh ⊢
    have h1 := shape_head hk hsh
    rw [lastOf, stayL_last _ _ (by intro e; rw [e] at h1; simp at h1), List.getLast?_append, List.getLast?_replicate, if_neg (by omega)]
    rfl
theorem all_le {ls : Lv} {last : Nat} (ht : Turn (allOf ls)) (hl : lastOf ls = some last) : ∀ x ∈ allOf ls, x.2 ≤ last := by
  cases ls with
  | nil => intro x hx; cases hx
  | cons l ls =>
    rw [lastOf, Option.map_eq_some_iff] at hl
    obtain ⟨z, hz, rfl⟩ := hl
    obtain ⟨l', rfl⟩ : ∃ l', l = l' ++ [z] := by
      have := List.getLast?_eq_some_iff.1 hz
      obtain ⟨ys, h⟩ := this
      exact ⟨ys, h⟩
    rw [allOf, ← List.append_assoc] at ht ⊢
    obtain ⟨_, h2, h3⟩ := turn_app.1 ht
    intro x hx
    rcases List.mem_append.1 hx with hx | hx
    · exact Nat.le_trans (h3 x hx z (by simp)) (h2.1 z (by simp))
    · rw [List.mem_singleton.1 hx]
      exact Nat.le_refl _
theorem ones_turn (t n : Nat) : Turn (List.replicate n (t, t)) := by
  refine ⟨fun x hx => ?_, ?_⟩
  · rw [(List.mem_replicate.1 hx).2]
    exact Nat.le_refl _
  · rw [List.pairwise_iff_getElem]
    intro i j hi hj _
    simp
theorem Ok.add {k : Nat} (hk : 1 ≤ k) {ls : Lv} (h : Ok k ls) (t n : Nat) (hl : ∀ last, lastOf ls = some last → last ≤ t) : Ok k (addW k ls t n) := by
  refine ⟨addL_shape k hk ls 0 _ h.shape, ?_, addW_flat k ls t n h.flat⟩
  have := addL_turn k ls 0 (List.replicate n (t, t)) [] ?_
  · simpa [addW] using this
  · rw [List.append_nil]
    refine turn_app.2 ⟨h.turn, ones_turn t n, ?_⟩
    intro x hx y hy
    rw [(List.mem_replicate.1 hy).2]
    cases hls : lastOf ls with
    | some last => exact Nat.le_trans (all_le h.turn hls x hx) (hl last hls)
    | none =>
      cases ls with
      | nil => cases hx
      | cons l ls =>
        have h1 := shape_head hk h.shape
        rw [lastOf, Option.map_eq_none_iff, List.getLast?_eq_none_iff] at hls
        rw [hls] at h1
        simp at h1
/-- As it is read level by level: each bucket is no earlier than those that are older. -/
theorem Ok.few {k : Nat} {ls : Lv} (h : Ok k ls) : Few k 0 ls := shape_few h.shape

end Go.Proofs.Lh
