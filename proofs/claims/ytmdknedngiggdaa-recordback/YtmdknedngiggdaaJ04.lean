/- Plain mathematics of histograms: levels of buckets, what comes to them, units, the shape, the turn. · More plain mathematics of histograms: one level of them, how many there are, what Add answers, round by round. · The contracts of hist's small functions: mayBe, at, Last, New, slices.Equal and slices.Clone as hist calls them. · The contracts of hist.levels, its function that is ranged over, Total, each, other.has, Same. -/
import Derived.Test.YtmdknedngiggdaaJ02
import Derived.RegionTactic
import Derived.BigQuiet
import Derived.WalkSpells
import Derived.Test.YtmdknedngiggdaaJ03
import Derived.Shelf.Abstract
import Derived.Shelf.RegionOpen
import Derived.WalkKit
import Derived.OwnWalkIn
import Derived.TacticsInMore
import Derived.LoopNIn
import Derived.LoopIn
import Derived.Deep.OwnRows
import Derived.Test.YtmdknedngiggdaaJ01
section
/- Plain mathematics of histograms: levels of buckets, what comes to them, units, the shape, the turn. -/
namespace Go.Proofs.Lh
open Go.Proofs.Lm (Sp el two pairs wentN stayN leftN went stay Turn)

/-- How many pairs go of so many. -/
def prs (n room : Nat) : Nat := (n - room + 1) / 2
/-- What stays of a level's buckets, and what goes. -/
def stayL (xs : List Sp) (room : Nat) : List Sp := xs.drop (2 * prs xs.length room)
def pairUp : List Sp → List Sp
  | a :: b :: r => (a.1, b.2) :: pairUp r
  | _ => []
def wentL (xs : List Sp) (room : Nat) : List Sp := pairUp (xs.take (2 * prs xs.length room))

theorem pairUp_len : ∀ xs : List Sp, (pairUp xs).length = xs.length / 2
  | [] => rfl
  | [_] => by simp [pairUp]
  | _ :: _ :: r => by simp only [pairUp, List.length_cons, pairUp_len r]; omega
theorem pairUp_app : ∀ (xs ys : List Sp), xs.length % 2 = 0 → pairUp (xs ++ ys) = pairUp xs ++ pairUp ys
  | [], ys, _ => rfl
  | [_], _, h => by simp at h
  | a :: b :: r, ys, h => by
    simp only [List.cons_append, pairUp]
    rw [pairUp_app r ys (by simp at h; omega)]
theorem pairUp_get : ∀ (xs : List Sp) (i : Nat) (h : 2 * i + 1 < xs.length), (pairUp xs)[i]? = some (xs[2 * i].1, xs[2 * i + 1].2)
  | [], _, h => by simp at h
  | [_], _, h => by simp at h
  | a :: b :: r, 0, _ => rfl
  | a :: b :: r, i + 1, h => by
    simp only [pairUp, List.getElem?_cons_succ]
    rw [pairUp_get r i (by simp at h; omega)]
    simp [show 2 * (i + 1) = 2 * i + 1 + 1 by omega]
theorem prs_le (n room : Nat) (h : 1 ≤ room) : 2 * prs n room ≤ n := by unfold prs; omega
theorem stayL_len (xs : List Sp) (room : Nat) : (stayL xs room).length = xs.length - 2 * prs xs.length room := by simp [stayL]
theorem wentL_len (xs : List Sp) (room : Nat) (h : 1 ≤ room) : (wentL xs room).length = prs xs.length room := by
  have := prs_le xs.length room h
  unfold wentL
  rw [pairUp_len, List.length_take]
  omega
theorem sumL (xs : List Sp) (room : Nat) (h : 1 ≤ room) : (stayL xs room).length + 2 * (wentL xs room).length = xs.length := by
  have := prs_le xs.length room h
  rw [stayL_len, wentL_len _ _ h]
  omega
theorem stayL_le (xs : List Sp) (room : Nat) : (stayL xs room).length ≤ room := by
  rw [stayL_len]
  unfold prs
  omega
theorem stayL_few {xs : List Sp} {room : Nat} (h : xs.length ≤ room) : stayL xs room = xs := by
  unfold stayL prs
  rw [show 2 * ((xs.length - room + 1) / 2) = 0 by omega, List.drop_zero]
theorem wentL_few {xs : List Sp} {room : Nat} (h : xs.length ≤ room) : wentL xs room = [] := by
  unfold wentL prs
  rw [show 2 * ((xs.length - room + 1) / 2) = 0 by omega, List.take_zero]
  rfl
theorem wentL_ne {xs : List Sp} {room : Nat} (hr : 1 ≤ room) (h : room < xs.length) : wentL xs room ≠ [] := by
  intro e
  have := wentL_len xs room hr
  rw [e] at this
  unfold prs at this
  simp at this
  omega
theorem stayL_least {xs : List Sp} {room : Nat} (h : room < xs.length) : room - 1 ≤ (stayL xs room).length := by
  rw [stayL_len]
  unfold prs
  omega

/-- Pushed in two, it is as pushed at once. -/
theorem stayL_app (xs ys : List Sp) (room : Nat) (hr : 1 ≤ room) : stayL (stayL xs room ++ ys) room = stayL (xs ++ ys) room := by
  have hp := prs_le xs.length room hr
  have e : prs (xs ++ ys).length room = prs xs.length room + prs (stayL xs room ++ ys).length room := by
    rw [List.length_append, List.length_append, stayL_len]
    unfold prs at *
    omega
  rw [show stayL (xs ++ ys) room = (xs ++ ys).drop (2 * prs (xs ++ ys).length room) from rfl, e, Nat.mul_add, ← List.drop_drop, List.drop_append_of_le_length (by omega)]
  rfl
theorem wentL_app (xs ys : List Sp) (room : Nat) (hr : 1 ≤ room) : wentL (xs ++ ys) room = wentL xs room ++ wentL (stayL xs room ++ ys) room := by
  have hp := prs_le xs.length room hr
  have e : prs (xs ++ ys).length room = prs xs.length room + prs (stayL xs room ++ ys).length room := by
    rw [List.length_append, List.length_append, stayL_len]
    unfold prs at *
    omega
  unfold wentL
  rw [← pairUp_app _ _ (by rw [List.length_take]; omega), e, Nat.mul_add, List.take_add, List.take_append_of_le_length (by omega), List.drop_append_of_le_length (by omega)]
  rfl

/-! ### What level.Push tells, as lists -/

def full (xs : List Sp) (t many : Nat) : List Sp := xs ++ List.replicate many (t, t)
theorem full_len (xs : List Sp) (t many : Nat) : (full xs t many).length = xs.length + many := by simp [full]
theorem full_get (xs : List Sp) (t many i : Nat) (h : i < xs.length + many) : (full xs t many)[i]? = some (el xs t i) := by
  unfold full el
  rcases Nat.lt_or_ge i xs.length with h1 | h1
  · rw [List.getElem?_append_left h1, List.getElem?_eq_getElem h1]
    rfl
  · rw [List.getElem?_append_right h1, List.getElem?_replicate, if_pos (by omega), List.getElem?_eq_none h1]
    rfl
theorem stay_full (xs : List Sp) (t many room : Nat) (hr : 1 ≤ room) : stay xs t many room = stayL (full xs t many) room := by
  have hp := Lm.pairs_le (n := xs.length) (many := many) hr
  apply List.ext_getElem?
  intro i
  unfold stayL
  rw [List.getElem?_drop, full_len]
  rw [show prs (xs.length + many) room = pairs xs.length many room from rfl]
  rcases Nat.lt_or_ge i (stayN xs.length many room) with h | h
  · rw [full_get _ _ _ _ (by unfold stayN at h; omega)]
    simp [stay, h]
  · rw [List.getElem?_eq_none (by rw [Lm.stay_len]; exact h), List.getElem?_eq_none (by rw [full_len]; unfold stayN at h; omega)]
theorem went_full_list (xs : List Sp) (t many room : Nat) (hr : 1 ≤ room) : full (went xs t many room) t (leftN xs.length many room) = wentL (full xs t many) room := by
  have hp := Lm.pairs_le (n := xs.length) (many := many) hr
  unfold full at *
  rw [Lm.went_full]
  have hw := wentL_len (full xs t many) room hr
  rw [full_len] at hw
  apply List.ext_getElem?
  intro i
  rcases Nat.lt_or_ge i (pairs xs.length many room) with h | h
  · rw [show (List.map (two xs t) (List.range (pairs xs.length many room)))[i]? = some (two xs t i) by simp [h]]
    unfold wentL
    have hl : ((full xs t many).take (2 * prs (full xs t many).length room)).length = 2 * pairs xs.length many room := by
      rw [List.length_take, full_len]
      show min (2 * pairs xs.length many room) _ = _
      omega
    have g := pairUp_get ((full xs t many).take (2 * prs (full xs t many).length room)) i (by omega)
    rw [show xs ++ List.replicate many (t, t) = full xs t many from rfl, g]
    have e1 := full_get xs t many (2 * i) (by omega)
    have e2 := full_get xs t many (2 * i + 1) (by omega)
    rw [List.getElem?_eq_getElem (by rw [full_len]; omega)] at e1 e2
    simp only [List.getElem_take]
    injection e1 with e1
    injection e2 with e2
    rw [e1, e2]
    rfl
  · rw [List.getElem?_eq_none (by simpa using h), List.getElem?_eq_none (by rw [show xs ++ List.replicate many (t, t) = full xs t many from rfl, hw]; exact h)]

/-! ### Levels -/

abbrev Lv := List (List Sp)

/-- How many buckets the level i may have. -/
def rm (k i : Nat) : Nat := if i = 0 then k + 1 else (k + 1) / 2 + 1
theorem rm_pos (k i : Nat) : 1 ≤ rm k i := by unfold rm; split <;> omega

theorem rm_two (k i : Nat) (h : 1 ≤ k) : 2 ≤ rm k i := by unfold rm; split <;> omega

theorem went_lt (xs : List Sp) (room : Nat) (hr : 1 ≤ room) (h : xs ≠ []) : (wentL xs room).length < xs.length := by
  have h1 := wentL_len xs room hr
  have h2 := prs_le xs.length room hr
  have : 0 < xs.length := List.length_pos_iff.2 h
  omega

/-- What comes behind all levels makes new ones. -/
def newL (k i : Nat) (come : List Sp) : Lv :=
  if h : come = [] then [] else stayL come (rm k i) :: newL k (i + 1) (wentL come (rm k i))
termination_by come.length
decreasing_by exact went_lt come (rm k i) (rm_pos k i) h

/-- Buckets that come to levels, from the level i on. -/
def addL (k : Nat) : Nat → Lv → List Sp → Lv
  | i, [], come => newL k i come
  | i, l :: ls, come => stayL (l ++ come) (rm k i) :: addL k (i + 1) ls (wentL (l ++ come) (rm k i))

theorem newL_nil (k i : Nat) : newL k i [] = [] := by rw [newL]; simp
theorem newL_ne (k i : Nat) {come : List Sp} (h : come ≠ []) : newL k i come = stayL come (rm k i) :: newL k (i + 1) (wentL come (rm k i)) := by rw [newL]; simp [h]

theorem newL_app (k : Nat) : ∀ (n i : Nat) (a b : List Sp), a.length + b.length ≤ n → newL k i (a ++ b) = addL k i (newL k i a) b := by
  intro n
  induction n with
  | zero =>
    intro i a b h
    have ha : a = [] := List.eq_nil_of_length_eq_zero (by omega)
    have hb : b = [] := List.eq_nil_of_length_eq_zero (by omega)
    subst ha hb
    rw [List.append_nil, newL_nil, addL, newL_nil]
  | succ n ih =>
    intro i a b h
    by_cases ha : a = []
    · subst ha
      rw [List.nil_append, newL_nil, addL]
    · have hr := rm_pos k i
      have hab : a ++ b ≠ [] := by simp [ha]
      rw [newL_ne k i hab, newL_ne k i ha, addL, stayL_app a b _ hr, wentL_app a b _ hr]
      have hal : 0 < a.length := List.length_pos_iff.2 ha
      have h1 := sumL (a ++ b) (rm k i) hr
      rw [wentL_app a b _ hr, List.length_append, List.length_append] at h1
      rw [ih (i + 1) _ _ (by omega)]

theorem addL_app (k : Nat) : ∀ (ls : Lv) (i : Nat) (a b : List Sp), addL k i ls (a ++ b) = addL k i (addL k i ls a) b
  | [], i, a, b => by rw [addL, addL]; exact newL_app k _ i a b (Nat.le_refl _)
  | l :: ls, i, a, b => by
    have hr := rm_pos k i
    rw [addL, addL, addL, ← List.append_assoc, stayL_app (l ++ a) b _ hr, wentL_app (l ++ a) b _ hr, addL_app k ls (i + 1)]

/-- No level has more than it may. -/
def Few (k : Nat) : Nat → Lv → Prop
  | _, [] => True
  | i, l :: ls => l.length ≤ rm k i ∧ Few k (i + 1) ls
theorem newL_few (k : Nat) : ∀ (n i : Nat) (come : List Sp), come.length ≤ n → Few k i (newL k i come) := by
  intro n
  induction n with
  | zero =>
    intro i come h
    have : come = [] := List.eq_nil_of_length_eq_zero (by omega)
    subst this
    rw [newL_nil]
    trivial
  | succ n ih =>
    intro i come h
    by_cases hc : come = []
    · subst hc
      rw [newL_nil]
      trivial
    · rw [newL_ne k i hc]
      have := went_lt come (rm k i) (rm_pos k i) hc
      exact ⟨stayL_le _ _, ih (i + 1) _ (by omega)⟩
theorem addL_few (k : Nat) : ∀ (ls : Lv) (i : Nat) (come : List Sp), Few k i (addL k i ls come)
  | [], i, come => by rw [addL]; exact newL_few k _ i come (Nat.le_refl _)
  | l :: ls, i, come => by rw [addL]; exact ⟨stayL_le _ _, addL_few k ls (i + 1) _⟩
theorem addL_none (k : Nat) : ∀ (ls : Lv) (i : Nat), Few k i ls → addL k i ls [] = ls
  | [], i, _ => by rw [addL, newL_nil]
  | l :: ls, i, h => by
    rw [addL, List.append_nil, stayL_few h.1, wentL_few h.1, addL_none k ls (i + 1) h.2]

/-! ### No unit is lost -/

/-- All units, of buckets of one unit on the first level. -/
def tot : Lv → Nat
  | [] => 0
  | l :: ls => l.length + 2 * tot ls
theorem newL_tot (k : Nat) : ∀ (n i : Nat) (come : List Sp), come.length ≤ n → tot (newL k i come) = come.length := by
  intro n
  induction n with
  | zero =>
    intro i come h
    have : come = [] := List.eq_nil_of_length_eq_zero (by omega)
    subst this
    rw [newL_nil]
    rfl
  | succ n ih =>
    intro i come h
    by_cases hc : come = []
    · subst hc
      rw [newL_nil]
      rfl
    · have h1 := went_lt come (rm k i) (rm_pos k i) hc
      have h2 := sumL come (rm k i) (rm_pos k i)
      rw [newL_ne k i hc, tot, ih (i + 1) _ (by omega)]
      omega
theorem addL_tot (k : Nat) : ∀ (ls : Lv) (i : Nat) (come : List Sp), tot (addL k i ls come) = tot ls + come.length
  | [], i, come => by rw [addL, newL_tot k _ i come (Nat.le_refl _), tot]; omega
  | l :: ls, i, come => by
    have h2 := sumL (l ++ come) (rm k i) (rm_pos k i)
    rw [List.length_append] at h2
    rw [addL, tot, addL_tot k ls (i + 1), tot]
    omega
/-- The same, by powers, as it is counted level by level. -/
def totFrom : Nat → Lv → Nat
  | _, [] => 0
  | i, l :: ls => l.length * 2 ^ i + totFrom (i + 1) ls
theorem totFrom_eq : ∀ (ls : Lv) (i : Nat), totFrom i ls = 2 ^ i * tot ls
  | [], i => by simp [totFrom, tot]
  | l :: ls, i => by
    rw [totFrom, totFrom_eq ls (i + 1), tot, Nat.pow_succ, Nat.mul_add, Nat.mul_comm l.length, Nat.mul_assoc]
theorem tot_eq (ls : Lv) : totFrom 0 ls = tot ls := by rw [totFrom_eq]; simp
theorem totFrom_app : ∀ (a b : Lv) (i : Nat), totFrom i (a ++ b) = totFrom i a + totFrom (i + a.length) b
  | [], b, i => by simp [totFrom]
  | l :: a, b, i => by
    rw [List.cons_append, totFrom, totFrom, totFrom_app a b (i + 1), List.length_cons, show i + 1 + a.length = i + (a.length + 1) by omega]
    omega

/-! ### The shape -/

/-- Each level below the last one has as many as must be, or one more; the last one has some, and no more than may be. -/
def Shape (k : Nat) : Nat → Lv → Prop
  | _, [] => True
  | i, [l] => 1 ≤ l.length ∧ l.length ≤ rm k i
  | i, l :: m :: ls => rm k i - 1 ≤ l.length ∧ l.length ≤ rm k i ∧ Shape k (i + 1) (m :: ls)
theorem shape_cons {k i : Nat} {l : List Sp} {r : Lv} (hr : Shape k (i + 1) r) (h1 : 1 ≤ l.length) (h2 : l.length ≤ rm k i) (h3 : r ≠ [] → rm k i - 1 ≤ l.length) : Shape k i (l :: r) := by
  cases r with
  | nil => exact ⟨h1, h2⟩
  | cons m ls => exact ⟨h3 (by simp), h2, hr⟩
theorem newL_shape (k : Nat) (hk : 1 ≤ k) : ∀ (n i : Nat) (come : List Sp), come.length ≤ n → Shape k i (newL k i come) := by
  intro n
  induction n with
  | zero =>
    intro i come h
    have : come = [] := List.eq_nil_of_length_eq_zero (by omega)
    subst this
    rw [newL_nil]
    trivial
  | succ n ih =>
    intro i come h
    by_cases hc : come = []
    · subst hc
      rw [newL_nil]
      trivial
    · have hl : 0 < come.length := List.length_pos_iff.2 hc
      have h1 := went_lt come (rm k i) (rm_pos k i) hc
      have h2 := rm_two k i hk
      rw [newL_ne k i hc]
      refine shape_cons (ih (i + 1) _ (by omega)) ?_ (stayL_le _ _) ?_
      · rcases Nat.lt_or_ge (rm k i) come.length with h | h
        · have := stayL_least h
          omega
        · rw [stayL_few h]
          exact hl
      · intro hne
        rcases Nat.lt_or_ge (rm k i) come.length with h | h
        · exact stayL_least h
        · rw [wentL_few h, newL_nil] at hne
          exact absurd rfl hne
theorem addL_shape (k : Nat) (hk : 1 ≤ k) : ∀ (ls : Lv) (i : Nat) (come : List Sp), Shape k i ls → Shape k i (addL k i ls come)
  | [], i, come, _ => by rw [addL]; exact newL_shape k hk _ i come (Nat.le_refl _)
  | [l], i, come, h => by
    have h2 := rm_two k i hk
    rw [addL]
    refine shape_cons (addL_shape k hk [] (i + 1) _ trivial) ?_ (stayL_le _ _) ?_
    · rcases Nat.lt_or_ge (rm k i) (l ++ come).length with h' | h'
      · have := stayL_least h'
        omega
      · rw [stayL_few h', List.length_append]
        have := h.1
        omega
    · intro hne
      rcases Nat.lt_or_ge (rm k i) (l ++ come).length with h' | h'
      · exact stayL_least h'
      · rw [wentL_few h', addL, newL_nil] at hne
        exact absurd rfl hne
  | l :: m :: ls, i, come, h => by
    have h2 := rm_two k i hk
    rw [addL]
    have hle : rm k i - 1 ≤ (stayL (l ++ come) (rm k i)).length := by
      rcases Nat.lt_or_ge (rm k i) (l ++ come).length with h' | h'
      · exact stayL_least h'
      · rw [stayL_few h', List.length_append]
        have := h.1
        omega
    exact shape_cons (addL_shape k hk (m :: ls) (i + 1) _ h.2.2) (by omega) (stayL_le _ _) (fun _ => hle)
theorem shape_few {k : Nat} : ∀ {ls : Lv} {i : Nat}, Shape k i ls → Few k i ls
  | [], _, _ => trivial
  | [_], _, h => ⟨h.2, trivial⟩
  | _ :: _ :: _, _, h => ⟨h.2.1, shape_few h.2.2⟩
theorem shape_head {k i : Nat} {l : List Sp} {ls : Lv} (hk : 1 ≤ k) (h : Shape k i (l :: ls)) : 1 ≤ l.length := by
  have := rm_two k i hk
  cases ls with
  | nil => exact h.1
  | cons m ls => have := h.1; omega

/-! ### The turn -/

/-- All buckets, the oldest ones, of the last level, first. -/
def allOf : Lv → List Sp
  | [] => []
  | l :: ls => allOf ls ++ l

theorem turn_app {xs ys : List Sp} : Turn (xs ++ ys) ↔ Turn xs ∧ Turn ys ∧ ∀ x ∈ xs, ∀ y ∈ ys, x.2 ≤ y.1 := by
  unfold Turn
  rw [List.pairwise_append]
  constructor
  · rintro ⟨h1, h2, h3, h4⟩
    exact ⟨⟨fun x hx => h1 x (List.mem_append_left _ hx), h2⟩, ⟨fun x hx => h1 x (List.mem_append_right _ hx), h3⟩, h4⟩
  · rintro ⟨⟨h1, h2⟩, ⟨h3, h4⟩, h5⟩
    exact ⟨fun x hx => (List.mem_append.1 hx).elim (h1 x) (h3 x), h2, h4, h5⟩
/-- Two that stand side by side, as one. -/
theorem pairUp_turn : ∀ (xs pre suf : List Sp), xs.length % 2 = 0 → Turn (pre ++ (xs ++ suf)) → Turn (pre ++ (pairUp xs ++ suf))
  | [], pre, suf, _, h => h
  | [_], _, _, hl, _ => by simp at hl
  | a :: b :: r, pre, suf, hl, h => by
    have hr := pairUp_turn r (pre ++ [(a.1, b.2)]) suf (by simp at hl; omega) ?_
    · simpa [pairUp] using hr
    · rw [List.append_assoc, List.singleton_append]
      obtain ⟨h1, h2, h3⟩ := turn_app.1 h
      have e : (a :: b :: r) ++ suf = [a, b] ++ (r ++ suf) := rfl
      rw [e] at h2 h3
      obtain ⟨h4, h5, h6⟩ := turn_app.1 h2
      have hab : a.2 ≤ b.1 := by
        have := h4.2
        simp at this
        exact this
      have ha := h4.1 a (by simp)
      have hb := h4.1 b (by simp)
      refine turn_app.2 ⟨h1, ?_, ?_⟩
      · have : (a.1, b.2) :: (r ++ suf) = [(a.1, b.2)] ++ (r ++ suf) := rfl
        rw [this]
        refine turn_app.2 ⟨⟨by simp; omega, by simp⟩, h5, ?_⟩
        intro x hx y hy
        rw [List.mem_singleton.1 hx]
        exact h6 b (by simp) y hy
      · intro x hx y hy
        rcases List.mem_cons.1 hy with rfl | hy
        · exact h3 x hx a (by simp)
        · exact h3 x hx y (List.mem_append_right _ hy)
theorem push_turn (xs pre suf : List Sp) (room : Nat) (hr : 1 ≤ room) (h : Turn (pre ++ (xs ++ suf))) : Turn (pre ++ (wentL xs room ++ (stayL xs room ++ suf))) := by
  have hp := prs_le xs.length room hr
  unfold wentL stayL
  refine pairUp_turn _ pre _ (by rw [List.length_take]; omega) ?_
  rw [← List.append_assoc (List.take _ xs), List.take_append_drop]
  exact h
theorem newL_turn (k : Nat) : ∀ (n i : Nat) (come suf : List Sp), come.length ≤ n → Turn (come ++ suf) → Turn (allOf (newL k i come) ++ suf) := by
  intro n
  induction n with
  | zero =>
    intro i come suf h ht
    have : come = [] := List.eq_nil_of_length_eq_zero (by omega)
    subst this
    rw [newL_nil]
    exact ht
  | succ n ih =>
    intro i come suf h ht
    by_cases hc : come = []
    · subst hc
      rw [newL_nil]
      exact ht
    · have h1 := went_lt come (rm k i) (rm_pos k i) hc
      rw [newL_ne k i hc, allOf, List.append_assoc]
      exact ih (i + 1) _ _ (by omega) (push_turn come [] suf (rm k i) (rm_pos k i) ht)
theorem addL_turn (k : Nat) : ∀ (ls : Lv) (i : Nat) (come suf : List Sp), Turn (allOf ls ++ (come ++ suf)) → Turn (allOf (addL k i ls come) ++ suf)
  | [], i, come, suf, h => by rw [addL]; exact newL_turn k _ i come suf (Nat.le_refl _) h
  | l :: ls, i, come, suf, h => by
    rw [addL, allOf, List.append_assoc]
    refine addL_turn k ls (i + 1) _ _ ?_
    refine push_turn (l ++ come) (allOf ls) suf (rm k i) (rm_pos k i) ?_
    rw [allOf, List.append_assoc] at h
    rw [List.append_assoc]
    exact h

/-! ### Units, one by one -/

theorem one_push (l : List Sp) (room : Nat) (s : Sp) (h : l.length ≤ room) (hr : 1 ≤ room) : Lm.one l room s = (stayL (l ++ [s]) room, wentL (l ++ [s]) room) := by
  unfold Lm.one
  by_cases h1 : (l ++ [s]).length ≤ room
  · rw [if_pos h1, stayL_few h1, wentL_few h1]
  · rw [if_neg h1]
    have hl : (l ++ [s]).length = room + 1 := by rw [List.length_append] at *; simp at *; omega
    have hp : prs (l ++ [s]).length room = 1 := by unfold prs; omega
    unfold stayL wentL
    rw [hp]
    match hm : l ++ [s], hl with
    | [], h => simp at h
    | [_], h => simp at h; omega
    | a :: b :: r, _ => simp [pairUp]

/-- Weight at once: so many units of a tick. -/
def addW (k : Nat) (ls : Lv) (t n : Nat) : Lv := addL k 0 ls (List.replicate n (t, t))
theorem addW_succ (k : Nat) (ls : Lv) (t n : Nat) : addW k ls t (n + 1) = addL k 0 (addW k ls t n) [(t, t)] := by
  unfold addW
  rw [List.replicate_succ', addL_app]
theorem addW_tot (k : Nat) (ls : Lv) (t n : Nat) : tot (addW k ls t n) = tot ls + n := by
  unfold addW
  rw [addL_tot, List.length_replicate]

/-! ### What was made -/

/-- The To of the last bucket of the first level. -/
def lastOf : Lv → Option Nat
  | [] => none
  | l :: _ => l.getLast?.map (·.2)
/-- Buckets of the first level are of one tick each. -/
def flat : Lv → Prop
  | [] => True
  | l :: _ => ∀ x ∈ l, x.1 = x.2
/-- What a histogram that was made keeps to. -/
structure Ok (k : Nat) (ls : Lv) : Prop where
  shape : Shape k 0 ls
  turn : Turn (allOf ls)
  flat : flat ls

theorem Ok.nil (k : Nat) : Ok k [] := ⟨trivial, Lm.Turn.nil, trivial⟩
theorem stayL_sub (xs : List Sp) (room : Nat) {x : Sp} (h : x ∈ stayL xs room) : x ∈ xs := List.mem_of_mem_drop h
theorem stayL_last (xs : List Sp) (room : Nat) (h : stayL xs room ≠ []) : (stayL xs room).getLast? = xs.getLast? := by
  unfold stayL at *
  rw [List.getLast?_drop, if_neg]
  intro e
  exact h (List.drop_of_length_le e)
theorem addW_flat (k : Nat) (ls : Lv) (t n : Nat) (h : flat ls) : flat (addW k ls t n) := by
  unfold addW
  cases ls with
  | nil =>
    rw [addL]
    by_cases hc : List.replicate n (t, t) = []
    · rw [hc, newL_nil]
      trivial
    · rw [newL_ne k 0 hc]
      intro x hx
      rw [(List.mem_replicate.1 (stayL_sub _ _ hx)).2]
  | cons l ls =>
    rw [addL]
    intro x hx
    rcases List.mem_append.1 (stayL_sub _ _ hx) with hx | hx
    · exact h x hx
    · rw [(List.mem_replicate.1 hx).2]
theorem addW_last (k : Nat) (hk : 1 ≤ k) (ls : Lv) (t n : Nat) (hs : Shape k 0 ls) (hn : 1 ≤ n) : lastOf (addW k ls t n) = some t := by
  have hsh := addL_shape k hk ls 0 (List.replicate n (t, t)) hs
  have hr : List.replicate n (t, t) ≠ [] := by simp; omega
  unfold addW
  cases ls with
  | nil =>
    rw [addL, newL_ne k 0 hr] at hsh ⊢
    have h1 := shape_head hk hsh
    rw [lastOf, stayL_last _ _ (by intro e; rw [e] at h1; simp at h1), List.getLast?_replicate, if_neg (by omega)]
    rfl
  | cons l ls =>
    rw [addL] at hsh ⊢
    have h1 := shape_head hk hsh
    rw [lastOf, stayL_last _ _ (by intro e; rw [e] at h1; simp at h1), List.getLast?_append, List.getLast?_replicate, if_neg (by omega)]
    rfl
theorem all_le {ls : Lv} {last : Nat} (ht : Turn (allOf ls)) (hl : lastOf ls = some last) : ∀ x ∈ allOf ls, x.2 ≤ last := by
  cases ls with
  | nil => intro x hx; cases hx
  | cons l ls =>
    rw [lastOf, Option.map_eq_some_iff] at hl
    obtain ⟨z, hz, rfl⟩ := hl
    obtain ⟨l', rfl⟩ : ∃ l', l = l' ++ [z] := by
      have := List.getLast?_eq_some_iff.1 hz
      obtain ⟨ys, h⟩ := this
      exact ⟨ys, h⟩
    rw [allOf, ← List.append_assoc] at ht ⊢
    obtain ⟨_, h2, h3⟩ := turn_app.1 ht
    intro x hx
    rcases List.mem_append.1 hx with hx | hx
    · exact Nat.le_trans (h3 x hx z (by simp)) (h2.1 z (by simp))
    · rw [List.mem_singleton.1 hx]
      exact Nat.le_refl _
theorem ones_turn (t n : Nat) : Turn (List.replicate n (t, t)) := by
  refine ⟨fun x hx => ?_, ?_⟩
  · rw [(List.mem_replicate.1 hx).2]
    exact Nat.le_refl _
  · rw [List.pairwise_iff_getElem]
    intro i j hi hj _
    simp
theorem Ok.add {k : Nat} (hk : 1 ≤ k) {ls : Lv} (h : Ok k ls) (t n : Nat) (hl : ∀ last, lastOf ls = some last → last ≤ t) : Ok k (addW k ls t n) := by
  refine ⟨addL_shape k hk ls 0 _ h.shape, ?_, addW_flat k ls t n h.flat⟩
  have := addL_turn k ls 0 (List.replicate n (t, t)) [] ?_
  · simpa [addW] using this
  · rw [List.append_nil]
    refine turn_app.2 ⟨h.turn, ones_turn t n, ?_⟩
    intro x hx y hy
    rw [(List.mem_replicate.1 hy).2]
    cases hls : lastOf ls with
    | some last => exact Nat.le_trans (all_le h.turn hls x hx) (hl last hls)
    | none =>
      cases ls with
      | nil => cases hx
      | cons l ls =>
        have h1 := shape_head hk h.shape
        rw [lastOf, Option.map_eq_none_iff, List.getLast?_eq_none_iff] at hls
        rw [hls] at h1
        simp at h1
/-- As it is read level by level: each bucket is no earlier than those that are older. -/
theorem Ok.few {k : Nat} {ls : Lv} (h : Ok k ls) : Few k 0 ls := shape_few h.shape

end Go.Proofs.Lh
end
section
/- More plain mathematics of histograms: one level of them, how many there are, what Add answers, round by round. -/
namespace Go.Proofs.Lh
open Go.Proofs.Lm (Sp el two pairs wentN stayN leftN went stay Turn)

/-- The level i; behind the last one it is empty. -/
def lev (ls : Lv) (i : Nat) : List Sp := ls[i]?.getD []
theorem lev_lt {ls : Lv} {i : Nat} (h : i < ls.length) : lev ls i = ls[i] := by simp [lev, List.getElem?_eq_getElem h]
theorem lev_ge {ls : Lv} {i : Nat} (h : ls.length ≤ i) : lev ls i = [] := by simp [lev, List.getElem?_eq_none h]
theorem drop_lev {ls : Lv} {i : Nat} (h : i < ls.length) : ls.drop i = lev ls i :: ls.drop (i + 1) := by rw [lev_lt h]; exact List.drop_eq_getElem_cons h

theorem few_lev {k : Nat} : ∀ {ls : Lv} {i : Nat} (j : Nat), Few k i ls → (lev ls j).length ≤ rm k (i + j)
  | [], _, _, _ => by simp [lev]
  | l :: ls, i, 0, h => h.1
  | l :: ls, i, j + 1, h => by
    have := few_lev (ls := ls) j h.2
    rw [show i + 1 + j = i + (j + 1) by omega] at this
    exact this
theorem few_drop {k : Nat} : ∀ {ls : Lv} {i : Nat} (j : Nat), Few k i ls → Few k (i + j) (ls.drop j)
  | [], _, _, _ => by simp [Few]
  | _ :: _, _, 0, h => h
  | l :: ls, i, j + 1, h => by
    have := few_drop (ls := ls) j h.2
    rw [show i + 1 + j = i + (j + 1) by omega] at this
    exact this
theorem rm_le (k i : Nat) : rm k i ≤ k + 2 := by unfold rm; split <;> omega

/-- One step of what comes: whatever the level is. -/
theorem addL_step (k i : Nat) (ls : Lv) (come : List Sp) (h : come ≠ [] ∨ i < ls.length) : addL k i (ls.drop i) come = stayL (lev ls i ++ come) (rm k i) :: addL k (i + 1) (ls.drop (i + 1)) (wentL (lev ls i ++ come) (rm k i)) := by
  rcases Nat.lt_or_ge i ls.length with hi | hi
  · rw [drop_lev hi, addL]
  · rw [List.drop_of_length_le hi, List.drop_of_length_le (by omega), lev_ge hi, List.nil_append]
    have hc : come ≠ [] := h.resolve_right (by omega)
    rw [addL, addL, newL_ne k i hc]

/-- So many levels there may be: each has a unit of its size. -/
theorem shape_many {k : Nat} (hk : 1 ≤ k) : ∀ {ls : Lv} {i : Nat}, Shape k i ls → ls ≠ [] → 2 ^ (ls.length - 1) ≤ tot ls
  | [], _, _, h => absurd rfl h
  | [l], _, h, _ => by have := h.1; simp [tot]; omega
  | l :: m :: ls, i, h, _ => by
    have := shape_many hk h.2.2 (by simp)
    rw [tot, List.length_cons, show (m :: ls).length + 1 - 1 = (m :: ls).length - 1 + 1 by simp, Nat.pow_succ]
    omega
theorem few_levels {k : Nat} (hk : 1 ≤ k) {ls : Lv} {i : Nat} (h : Shape k i ls) (ht : tot ls ≤ 4503599627370496) : ls.length ≤ 53 := by
  by_cases hn : ls = []
  · subst hn; simp
  · have := shape_many hk h hn
    rcases Nat.lt_or_ge 53 ls.length with h2 | h2
    · have h3 : 2 ^ 53 ≤ 2 ^ (ls.length - 1) := Nat.pow_le_pow_right (by omega) (by omega)
      omega
    · exact h2

/-- What Add answers: an error's number, or 0. -/
def may (k : Int) : Bool := decide (2 ≤ k ∧ k ≤ 1024)
def code (ls : Lv) (t n : Nat) : Nat :=
  if n = 0 then 1 else if 9223372036854775807 < t ∨ t < (lastOf ls).getD 0 then 6 else if 4503599627370496 < n ∨ 4503599627370496 < n + tot ls then 5 else 0

/-- A histogram that was made: its shape, its turn, its units. -/
structure Made (k : Nat) (ls : Lv) : Prop where
  k2 : 2 ≤ k
  k1 : k ≤ 1024
  ok : Ok k ls
  small : tot ls ≤ 4503599627370496
theorem Made.nil {k : Nat} (h : 2 ≤ k) (h1 : k ≤ 1024) : Made k [] := ⟨h, h1, Ok.nil k, by simp [tot]⟩
theorem Made.len {k : Nat} {ls : Lv} (h : Made k ls) : ls.length ≤ 53 := few_levels (by have := h.k2; omega) h.ok.shape h.small
theorem Made.few {k : Nat} {ls : Lv} (h : Made k ls) : Few k 0 ls := h.ok.few
theorem Made.lev {k : Nat} {ls : Lv} (h : Made k ls) (i : Nat) : (lev ls i).length ≤ 1026 := by
  have h1 := few_lev i h.few
  have h2 := rm_le k (0 + i)
  have := h.k1
  omega
theorem Made.add {k : Nat} {ls : Lv} (h : Made k ls) {t n : Nat} (hc : code ls t n = 0) : Made k (addW k ls t n) := by
  unfold code at hc
  split at hc
  · omega
  split at hc
  · omega
  split at hc
  · omega
  refine ⟨h.k2, h.k1, h.ok.add (by have := h.k2; omega) t n ?_, ?_⟩
  · intro last hl
    rename_i h2 _
    rw [hl] at h2
    simp at h2
    omega
  · rw [addW_tot]
    omega

/-- A level's units and those behind it. -/
theorem tot_lev : ∀ (ls : Lv) (i : Nat), totFrom 0 (ls.take i) + totFrom i (ls.drop i) = tot ls := by
  intro ls i
  rcases Nat.lt_or_ge ls.length i with h | h
  · rw [List.take_of_length_le (by omega), List.drop_of_length_le (by omega), totFrom]
    exact tot_eq ls
  · have := totFrom_app (ls.take i) (ls.drop i) 0
    rw [List.take_append_drop, List.length_take, Nat.min_eq_left h, Nat.zero_add] at this
    rw [← this]
    exact tot_eq ls
theorem totFrom_take {ls : Lv} {i : Nat} (h : i < ls.length) : totFrom 0 (ls.take (i + 1)) = totFrom 0 (ls.take i) + ls[i].length * 2 ^ i := by
  rw [List.take_succ_eq_append_getElem h, totFrom_app, List.length_take, Nat.min_eq_left (by omega), Nat.zero_add]
  simp [totFrom]
theorem totFrom_le (ls : Lv) (i : Nat) : totFrom 0 (ls.take i) ≤ tot ls := by have := tot_lev ls i; omega

/-! ### Round by round: what stands there at round i -/

/-- At round i so much comes to the level i, and R is what all that makes. -/
structure At (k : Nat) (ls : Lv) (t : Nat) (R : Lv) (i : Nat) (come : List Sp) (many : Nat) : Prop where
  rest : R.drop i = addL k i (ls.drop i) (full come t many)
  few : come.length ≤ 2000
  most : many ≤ 4503599627370496
theorem At.start (k : Nat) (ls : Lv) (t n : Nat) (hn : n ≤ 4503599627370496) : At k ls t (addW k ls t n) 0 [] n := ⟨by simp [addW, full], by simp, hn⟩
theorem full_nil {come : List Sp} {t many : Nat} : full come t many = [] ↔ come.length = 0 ∧ many = 0 := by simp [full]

theorem full_app (l come : List Sp) (t many : Nat) : l ++ full come t many = full (l ++ come) t many := by simp [full]
/-- The round: what stays is the level i of R, and what goes comes to the next. -/
theorem At.next {k : Nat} {ls R : Lv} {t i many : Nat} {come : List Sp} (h : At k ls t R i come many) (hl : (lev ls i).length ≤ 1026) (hgo : full come t many ≠ [] ∨ i < ls.length) :
    i < R.length ∧ lev R i = stay (lev ls i ++ come) t many (rm k i) ∧ At k ls t R (i + 1) (went (lev ls i ++ come) t many (rm k i)) (leftN (lev ls i ++ come).length many (rm k i)) := by
  have e := h.rest
  rw [addL_step k i ls _ hgo, full_app, ← stay_full _ _ _ _ (rm_pos k i), ← went_full_list _ _ _ _ (rm_pos k i)] at e
  have hi : i < R.length := by
    rcases Nat.lt_or_ge i R.length with hi | hi
    · exact hi
    · rw [List.drop_of_length_le hi] at e
      cases e
  rw [drop_lev hi] at e
  injection e with e1 e2
  refine ⟨hi, e1, ⟨e2, ?_, ?_⟩⟩
  · rw [Lm.went_len]
    have h1 := Lm.wentN_half (lev ls i ++ come).length many (rm k i)
    have h2 := h.few
    rw [List.length_append] at h1 ⊢
    omega
  · have h1 := Lm.leftN_le (lev ls i ++ come).length many (rm k i) (rm_pos k i)
    have h2 := h.most
    omega
/-- Nothing comes any more: the levels from here on are as they were. -/
theorem At.done {k : Nat} {ls R : Lv} {t i many : Nat} {come : List Sp} (h : At k ls t R i come many) (hf : Few k 0 ls) (hz : full come t many = []) : R.drop i = ls.drop i := by
  rw [h.rest, hz]
  have := few_drop i hf
  rw [Nat.zero_add] at this
  exact addL_none k _ i this
theorem At.over {k : Nat} {ls R : Lv} {t i many : Nat} {come : List Sp} (h : At k ls t R i come many) (hi : ls.length ≤ i) (hz : full come t many = []) : R.length ≤ i := by
  have e := h.rest
  rw [hz, List.drop_of_length_le hi, addL, newL_nil] at e
  have := congrArg List.length e
  simp at this
  omega

end Go.Proofs.Lh
end
section
/- The contracts of hist's small functions: mayBe, at, Last, New, slices.Equal and slices.Clone as hist calls them. -/
namespace Go.Proofs.Ytmdknedngiggdaa
open Go.RowKit Go.Proofs.Rw Go.Proofs.Lh

theorem ret_b {a b : Bool} (h : a = b) : Ending.returned (.bool a) = .returned (.bool b) := by rw [h]

/-- A histogram as a value. -/
abbrev hv (k g : Int) (s : Value) : Value := .agg #[.int .i64 k, .int .i64 g, s]

set_option maxHeartbeats 1000000 in
theorem at_any (k g : Int) (ls : Lv) (i : Nat) (w : World) (B : Nat) (hB : B ≤ w.heap.size) (A : Option Addr) (c : Nat) (h : Levs w B (.slice A ls.length c) ls) :
    Calls Try.prog 68 #[hv k g (.slice A ls.length c), .int .i64 (i : Int)] w fun e w' => ∃ A' c', e = .returned (.slice A' (lev ls i).length c') ∧ Lies spL w B (.slice A' (lev ls i).length c') (lev ls i) ∧ Below w.heap.size w w' := by
  rcases Nat.lt_or_ge i ls.length with hi | hi
  · obtain ⟨b, off, rfl, hb, _, hc⟩ := h.at (by omega)
    obtain ⟨Ai, ci, hcell, _, _, hL⟩ := hc i hi
    rw [lev_lt hi]
    have hbs : b < w.heap.size := by omega
    have HL := Lib.hid hL
    generalize ls[i] = l at *
    clear h hc hL
    go_enter Try.func68, Try.ntmps68
    go_wp2
    go_ret
    exact ⟨_, _, rfl, HL.out, (Below.refl _ w).alloc (Nat.le_refl _) _⟩
  · rw [lev_ge hi]
    clear h
    go_enter Try.func68, Try.ntmps68
    go_wp2
    go_ret
    exact ⟨none, 0, rfl, Lies.nil _ _ (by unfold maxLen; omega), (Below.refl _ w).alloc (Nat.le_refl _) _⟩

/-- What Last tells. -/
abbrev lastV (ls : Lv) : Ending := .returned (.tuple #[.int .u64 (((lastOf ls).getD 0 : Nat) : Int), .bool (lastOf ls).isSome])
theorem lastOf_nil {ls : Lv} (h : (lev ls 0).length = 0) : lastOf ls = none := by
  cases ls with
  | nil => rfl
  | cons l ls =>
    have : l = [] := List.eq_nil_of_length_eq_zero h
    subst this
    rfl
theorem lastOf_at {ls : Lv} {n : Nat} (h : n + 1 = (lev ls 0).length) : lastOf ls = some (lev ls 0)[n].2 := by
  cases ls with
  | nil => simp [lev] at h
  | cons l ls =>
    have e : lev (l :: ls) 0 = l := rfl
    simp only [e] at h ⊢
    rw [lastOf, List.getLast?_eq_getElem?, show l.length - 1 = n by omega, List.getElem?_eq_getElem (by omega)]
    rfl

theorem sp_type : Try.prog.underlying 73 = some (.struct (Try.prog.fieldsOf 73)) := by kernel_rfl
theorem sp_held : Try.prog.stoodInHeld 73 = false := by kernel_rfl
theorem sp_eq (d : Nat) (a b c e : Int) (w : World) : (Op.equalIn (d + 2) 73 (.agg #[.int .u64 a, .int .u64 b]) (.agg #[.int .u64 c, .int .u64 e])).run Try.prog w = .ok (a == c && b == e) w := by
  rw [run_equalIn_agg w (d + 1) _ _ _ sp_type sp_held]
  simp [go_sem, Try.underlying73, Try.underlying61]
  by_cases h1 : a = c <;> by_cases h2 : b = e <;> simp [h1, h2]
theorem sp_neq (a b c e : Int) (w : World) : (binOp .neq 73 (.agg #[.int .u64 a, .int .u64 b]) (.agg #[.int .u64 c, .int .u64 e])).run Try.prog w = .ok (.bool (!(a == c && b == e))) w := by
  rw [run_neq_struct, show (10000 : Nat) = 9998 + 2 from rfl, sp_eq]
  rfl
theorem sp_guard (op : BinOp) (x y : Operand) (xs ys : Array Value) (w : World) : (eqGuard op 73 x y (.agg xs) (.agg ys)).run Try.prog w = .ok () w := run_eqGuard_agg w op _ x y xs ys (by kernel_rfl)
attribute [local go_sem] sp_neq sp_guard

set_option maxHeartbeats 1000000 in
theorem equal_any (xs ys : List Sp) (hl : xs.length ≤ 10000000) (w : World) (B : Nat) (hB : B ≤ w.heap.size) (A1 A2 : Option Addr) (c1 c2 : Nat) (h1 : Lies spL w B (.slice A1 xs.length c1) xs) (h2 : Lies spL w B (.slice A2 ys.length c2) ys) :
    Calls Try.prog 67 #[.slice A1 xs.length c1, .slice A2 ys.length c2] w fun e w' => e = .returned (.bool (decide (xs = ys))) ∧ Below w.heap.size w w' := by
  have H1 := Lib.hid h1
  have H2 := Lib.hid h2
  clear h1 h2
  by_cases hlen : xs.length = ys.length
  · obtain ⟨n, hn⟩ : ∃ n, xs.length = n := ⟨_, rfl⟩
    have HX := Lib.hid hn
    have HY := Lib.hid (hlen.symm.trans hn)
    have hnl : n ≤ 10000000 := by omega
    rw [← hlen, hn]
    clear hlen hn hl
    go_enter Try.func67, Try.ntmps67
    go_wp2
    go_loopw [13] (fun j wr => ∃ k : Nat, j = .int .i64 k ∧ k ≤ n ∧ xs.take k = ys.take k ∧ Below w.heap.size w wr) (fun j _ => n - (intOf j).toNat)
    case atStart => exact ⟨0, rfl, Nat.zero_le _, by simp, Below.refl _ _⟩
    case round =>
      obtain ⟨k, rfl, hk, htk, hbel⟩ := hrel
      by_cases hlt : k < n
      · have kx : k < xs.length := by rw [HX.out]; exact hlt
        have ky : k < ys.length := by rw [HY.out]; exact hlt
        have L1 := (H1.out.mono hB).below hbel
        have L2 := (H2.out.mono hB).below hbel
        rw [HX.out] at L1
        rw [HY.out] at L2
        obtain ⟨b1, o1, rfl, hb1, _, hc1⟩ := sp_at L1 (by omega)
        obtain ⟨b2, o2, rfl, hb2, _, hc2⟩ := sp_at L2 (by omega)
        obtain ⟨p0, p1⟩ := hc1 k kx
        obtain ⟨q0, q1⟩ := hc2 k ky
        have l1 : b1 < wr.heap.size := Nat.lt_of_lt_of_le hb1 hbel.size
        have l2 : b2 < wr.heap.size := Nat.lt_of_lt_of_le hb2 hbel.size
        have s1 : xs.take (k + 1) = xs.take k ++ [xs[k]] := List.take_succ_eq_append_getElem kx
        have s2 : ys.take (k + 1) = ys.take k ++ [ys[k]] := List.take_succ_eq_append_getElem ky
        have g1 : xs[k]? = some xs[k] := List.getElem?_eq_getElem kx
        have g2 : ys[k]? = some ys[k] := List.getElem?_eq_getElem ky
        generalize xs[k] = x at *
        generalize ys[k] = y at *
        obtain ⟨e1, d1⟩ : ∃ e, ((x.1 : Int) == (y.1 : Int)) = e := ⟨_, rfl⟩
        obtain ⟨e2, d2⟩ : ∃ e, ((x.2 : Int) == (y.2 : Int)) = e := ⟨_, rfl⟩
        have hxy : (x = y) ↔ (e1 && e2) = true := by
          subst d1 d2
          rw [Prod.ext_iff]
          simp
          omega
        have HXY := Lib.hid hxy
        have HB := Lib.hid hbel
        have HT := Lib.hid htk
        have S1 := Lib.hid s1
        have S2 := Lib.hid s2
        have G1 := Lib.hid g1
        have G2 := Lib.hid g2
        clear hbel hc1 hc2 htk s1 s2 g1 g2 L1 L2 hxy kx ky
        go_upto_region 6 with (fail)
        cases e1 <;> cases e2
        case true.true =>
          go_quiet (fail)
          go_wp2
          refine ⟨⟨k + 1, by go_num, hlt, ?_, below_drewN HB.out _⟩, by simp [intOf]; omega⟩
          rw [S1.out, S2.out, HT.out, HXY.out.2 rfl]
        all_goals
          go_quiet (fail)
          go_wp2
          go_ret
          refine ⟨ret_b ?_, below_drewN HB.out _⟩
          symm
          rw [decide_eq_false_iff_not]
          intro e
          have ge := G1.out
          rw [e, G2.out] at ge
          injection ge with ge
          have := HXY.out.1 ge.symm
          simp at this
      · have hx := HX.out
        have hy := HY.out
        have e : xs = ys := by
          rw [List.take_of_length_le (by omega), List.take_of_length_le (by omega)] at htk
          exact htk
        have HE := Lib.hid e
        clear htk hx hy e
        go_wp2
        go_ret
        exact ⟨ret_b (by simp [HE.out]), hbel⟩
  · have hne : xs ≠ ys := fun e => hlen (by rw [e])
    have hb : ((xs.length : Int) == (ys.length : Int)) = false := by rw [beq_eq_false_iff_ne]; omega
    have HN := Lib.hid hne
    clear hne hlen
    go_enter Try.func67, Try.ntmps67
    go_wp2
    go_ret
    exact ⟨ret_b (by simp [HN.out]), Below.refl _ _⟩

set_option maxHeartbeats 1000000 in
theorem rEq_any (xs ys : List Sp) (hl : xs.length ≤ 10000000) (w : World) (B : Nat) (hB : B ≤ w.heap.size) (A1 A2 : Option Addr) (c1 c2 : Nat) (h1 : Lies spL w B (.slice A1 xs.length c1) xs) (h2 : Lies spL w B (.slice A2 ys.length c2) ys) :
    Calls Try.prog 59 #[.slice A1 xs.length c1, .slice A2 ys.length c2] w fun e w' => e = .returned (.bool (decide (xs = ys))) ∧ Below w.heap.size w w' := by
  have H1 := Lib.hid h1
  have H2 := Lib.hid h2
  clear h1 h2
  by_cases hlen : xs.length = ys.length
  · obtain ⟨n, hn⟩ : ∃ n, xs.length = n := ⟨_, rfl⟩
    have HX := Lib.hid hn
    have HY := Lib.hid (hlen.symm.trans hn)
    have hnl : n ≤ 10000000 := by omega
    rw [← hlen, hn]
    clear hlen hn hl
    go_enter Try.func59, Try.ntmps59
    go_wp2
    go_loopw [5] (fun j wr => ∃ k : Nat, j = .int .i64 k ∧ k ≤ n ∧ xs.take k = ys.take k ∧ Below w.heap.size w wr) (fun j _ => n - (intOf j).toNat)
    case atStart => exact ⟨0, rfl, Nat.zero_le _, by simp, Below.refl _ _⟩
    case round =>
      obtain ⟨k, rfl, hk, htk, hbel⟩ := hrel
      by_cases hlt : k < n
      · have kx : k < xs.length := by rw [HX.out]; exact hlt
        have ky : k < ys.length := by rw [HY.out]; exact hlt
        have L1 := (H1.out.mono hB).below hbel
        have L2 := (H2.out.mono hB).below hbel
        rw [HX.out] at L1
        rw [HY.out] at L2
        obtain ⟨b1, o1, rfl, hb1, _, hc1⟩ := sp_at L1 (by omega)
        obtain ⟨b2, o2, rfl, hb2, _, hc2⟩ := sp_at L2 (by omega)
        obtain ⟨p0, p1⟩ := hc1 k kx
        obtain ⟨q0, q1⟩ := hc2 k ky
        have l1 : b1 < wr.heap.size := Nat.lt_of_lt_of_le hb1 hbel.size
        have l2 : b2 < wr.heap.size := Nat.lt_of_lt_of_le hb2 hbel.size
        have s1 : xs.take (k + 1) = xs.take k ++ [xs[k]] := List.take_succ_eq_append_getElem kx
        have s2 : ys.take (k + 1) = ys.take k ++ [ys[k]] := List.take_succ_eq_append_getElem ky
        have g1 : xs[k]? = some xs[k] := List.getElem?_eq_getElem kx
        have g2 : ys[k]? = some ys[k] := List.getElem?_eq_getElem ky
        generalize xs[k] = x at *
        generalize ys[k] = y at *
        obtain ⟨e1, d1⟩ : ∃ e, ((x.1 : Int) == (y.1 : Int)) = e := ⟨_, rfl⟩
        obtain ⟨e2, d2⟩ : ∃ e, ((x.2 : Int) == (y.2 : Int)) = e := ⟨_, rfl⟩
        have hxy : (x = y) ↔ (e1 && e2) = true := by
          subst d1 d2
          rw [Prod.ext_iff]
          simp
          omega
        have HXY := Lib.hid hxy
        have HB := Lib.hid hbel
        have HT := Lib.hid htk
        have S1 := Lib.hid s1
        have S2 := Lib.hid s2
        have G1 := Lib.hid g1
        have G2 := Lib.hid g2
        clear hbel hc1 hc2 htk s1 s2 g1 g2 L1 L2 hxy kx ky
        go_upto_region 6 with (fail)
        cases e1 <;> cases e2
        case true.true =>
          go_quiet (fail)
          go_wp2
          refine ⟨⟨k + 1, by go_num, hlt, ?_, below_drewN HB.out _⟩, by simp [intOf]; omega⟩
          rw [S1.out, S2.out, HT.out, HXY.out.2 rfl]
        all_goals
          go_quiet (fail)
          go_wp2
          go_ret
          refine ⟨ret_b ?_, below_drewN HB.out _⟩
          symm
          rw [decide_eq_false_iff_not]
          intro e
          have ge := G1.out
          rw [e, G2.out] at ge
          injection ge with ge
          have := HXY.out.1 ge.symm
          simp at this
      · have hx := HX.out
        have hy := HY.out
        have e : xs = ys := by
          rw [List.take_of_length_le (by omega), List.take_of_length_le (by omega)] at htk
          exact htk
        have HE := Lib.hid e
        clear htk hx hy e
        go_wp2
        go_ret
        exact ⟨ret_b (by simp [HE.out]), hbel⟩
  · have hne : xs ≠ ys := fun e => hlen (by rw [e])
    have hb : ((xs.length : Int) == (ys.length : Int)) = false := by rw [beq_eq_false_iff_ne]; omega
    have HN := Lib.hid hne
    clear hne hlen
    go_enter Try.func59, Try.ntmps59
    go_wp2
    go_ret
    exact ⟨ret_b (by simp [HN.out]), Below.refl _ _⟩

/-- What New and Add tell: a histogram, and an error's number. -/
abbrev hret (h : Value) (e : Int) : Ending := .returned (.tuple #[h, .int .i64 e])

theorem info_row : (Try.prog.info? 65).map (fun i => (i.zero, i.size, i.bytes)) = some (some (.slice none 0 0), 1, 24) := by kernel_rfl
/-- A row of the call's own, of levels. -/
abbrev OwnL (Z : Nat → Prop) (w : World) (base : Nat) (v : Value) (ls : Lv) : Prop := OwnLevs 65 Z w base v ls

end Go.Proofs.Ytmdknedngiggdaa
end
section
/- The contracts of hist.levels, its function that is ranged over, Total, each, other.has, Same. -/
namespace Go.Proofs.Ytmdknedngiggdaa
open Go.RowKit Go.Shelf Go.Proofs.Rw Go.Proofs.Lh Go.Proofs.Rn

attribute [local go_sem] Oper.semAt_some

/-- What is handed over in a round: a level's number, and its slice. -/
structure Yl where
  i : Nat
  A : Option Addr
  n : Nat
  c : Nat
abbrev encY (x : Yl) : Array Value := #[.int .i64 (x.i : Int), .slice x.A x.n x.c]

/-- Blocks below B stay as they were. -/
structure Kb (B : Nat) (W W' : World) : Prop where
  size : W.heap.size ≤ W'.heap.size
  block : ∀ b, b < B → W'.heap[b]? = W.heap[b]?
theorem Kb.refl (B : Nat) (W : World) : Kb B W W := ⟨Nat.le_refl _, fun _ _ => rfl⟩
theorem Kb.trans {B : Nat} {X Y Z : World} (h : Kb B X Y) (k : Kb B Y Z) : Kb B X Z := ⟨Nat.le_trans h.size k.size, fun b hb => (k.block b hb).trans (h.block b hb)⟩
theorem Kb.put {B : Nat} {w : World} (hB : B ≤ w.heap.size) (W : World) (l : Nat) (o o' : Obj) (hl : w.heap.size ≤ l) (_ : W.heap[l]? = some o) (_ : o.isCells = false) : Kb B W (W.putObj l o') :=
  ⟨by simp, fun b hb => World.putObj_heap_other (by omega)⟩

/-- The round k of 'levels': the level k. -/
def PxL (B : Nat) (ls : Lv) (k : Nat) (x : Yl) (W : World) : Prop := k < ls.length ∧ x.i = k ∧ x.n = (lev ls k).length ∧ Lies spL W B (.slice x.A x.n x.c) (lev ls k)
theorem PxL.put {B : Nat} {ls : Lv} {w : World} (hB : B ≤ w.heap.size) (k : Nat) (x : Yl) (W : World) (l : Nat) (o o' : Obj) (hl : w.heap.size ≤ l) (_ : W.heap[l]? = some o) (_ : o.isCells = false) (h : PxL B ls k x W) : PxL B ls k x (W.putObj l o') :=
  ⟨h.1, h.2.1, h.2.2.1, h.2.2.2.keep fun b hb => World.putObj_heap_other (by omega)⟩

set_option maxRecDepth 100000 in
set_option maxHeartbeats 1000000 in
theorem levels1_rd (n : Nat) (hn : 1 ≤ n) (B bx : Nat) (k g : Int) (ls : Lv) (hl : ls.length ≤ 1000000) (w : World) (hB : B ≤ w.heap.size) (A : Option Addr) (c : Nat) (h : Reads w B (.slice A ls.length c) ls)
    (hbx : w.heap[bx]? = some (.cells #[.int .i64 k, .int .i64 g, .slice A ls.length c] 30)) :
    SeqN Fence.wide n Try.prog 82 #[.pointer (some ⟨bx, 0, none⟩)] encY (PxL B ls) (Kb B) (fun m => m = ls.length) w := by
  intro l J Jx W hW hJ hJx hY hJ0
  have hL := h.below (hW.mono hB)
  have hcell : W.cell? ⟨bx, 2, none⟩ = some (.slice A ls.length c) := by
    have e := (hW.block bx (lt_of hbx)).trans hbx
    simp [World.cell?, e]
  have hbl : bx < W.heap.size := Nat.lt_of_lt_of_le (lt_of hbx) hW.size
  obtain ⟨N, hN⟩ : ∃ N, ls.length = N := ⟨_, rfl⟩
  rw [hN] at hcell hl hL ⊢
  have HN := Lib.hid hN
  have HJ := Lib.hid hJ
  have HY := Lib.hid hY
  have HL := Lib.hid hL
  have HW := Lib.hid hW
  clear hJ hJx hY h hL hbx hN hW
  refine callsIn_of_wp Try.func82 rfl trivial ?_ rfl
  simp only [Try.ntmps82, List.size_toArray, List.length_cons, List.length_nil, Nat.reduceAdd, Nat.reduceSub, Array.replicate_succ, Array.replicate_zero, List.push_toArray, List.append_toArray, List.nil_append, List.cons_append]
  gi_wp2
  gi_loopw [8] (fun p wr => ∃ j : Nat, p = .int .i64 j ∧ j ≤ N ∧ J j wr ∧ Kb B W wr) (fun p _ => N - (intOf p).toNat)
  case atStart => exact ⟨0, rfl, Nat.zero_le _, hJ0, Kb.refl _ _⟩
  case round =>
    obtain ⟨j, rfl, hle, hJs, hK⟩ := hrel
    have hsz : B ≤ wr.heap.size := Nat.le_trans hB (Nat.le_trans HW.out.size hK.size)
    by_cases hlt : j < N
    · have hjl : j < ls.length := by rw [HN.out]; exact hlt
      have hLr : Reads wr B (.slice A N c) ls := HL.out.keep hK.block
      obtain ⟨b, off, rfl, hb, -, hc⟩ := hLr.at (by omega)
      obtain ⟨Ai, ci, q0, -, -, hLi⟩ := hc j hjl
      have hbs : b < wr.heap.size := by omega
      obtain ⟨fn, tmps, assign, body, hy, hR⟩ := HY.out j ⟨j, Ai, ls[j].length, ci⟩ wr hJs ⟨hjl, rfl, by rw [lev_lt hjl], by rw [lev_lt hjl]; exact hLi⟩
      generalize ls[j].length = m at *
      dsimp only [encY] at hy
      have HKK := Lib.hid hK
      clear hc hLi hLr hcell hJ0 hK
      gi_wp2
      refine hR.mono ?_
      rintro e W3 (⟨rfl, hJ3, hk3⟩ | ⟨rfl, hJx3⟩)
      · gi_wp2
        go_roundw
        case rel => exact ⟨j + 1, by go_num, hlt, hJ3, HKK.out.trans hk3⟩
        case measure => simp [intOf]; omega
      · gi_wp2
        refine bodyPost_ret (results_none rfl _ _ _) rfl ?_
        exact ⟨⟨_, rfl⟩, .inr ⟨_, hJx3⟩⟩
    · have e : j = N := by omega
      subst e
      gi_wp2
      refine bodyPost_end (results_none rfl _ _ _) rfl ?_
      exact ⟨⟨_, rfl⟩, .inl ⟨j, rfl, hJs⟩⟩

theorem levels1_in (n : Nat) (hn : 1 ≤ n) (B bx : Nat) (k g : Int) (ls : Lv) (hl : ls.length ≤ 1000000) (w : World) (hB : B ≤ w.heap.size) (A : Option Addr) (c : Nat) (h : Levs w B (.slice A ls.length c) ls)
    (hbx : w.heap[bx]? = some (.cells #[.int .i64 k, .int .i64 g, .slice A ls.length c] 30)) :
    SeqN Fence.wide n Try.prog 82 #[.pointer (some ⟨bx, 0, none⟩)] encY (PxL B ls) (Kb B) (fun m => m = ls.length) w := levels1_rd n hn B bx k g ls hl w hB A c h.reads hbx

theorem levels_in (n : Nat) (k g : Int) (s : Value) (w : World) :
    CallsIn Fence.wide n Try.prog 66 #[hv k g s] w fun e w' => e = .returned (.func (.func 82) #[] #[.pointer (some ⟨w.heap.size, 0, none⟩)]) ∧
      w' = w.alloc (.cells #[.int .i64 k, .int .i64 g, s] 30) := by
  refine callsIn_of_wp Try.func66 rfl trivial ?_ rfl
  simp only [Try.ntmps66, List.size_toArray, List.length_cons, List.length_nil, Nat.reduceAdd, Nat.reduceSub, Array.replicate_succ, Array.replicate_zero, List.push_toArray, List.append_toArray, List.nil_append, List.cons_append]
  gi_wp2
  go_ret
  exact ⟨rfl, rfl⟩

theorem heap_three (w : World) (o0 o1 o2 : Obj) : ∃ W, W = ((w.alloc o0).alloc o1).alloc o2 ∧ W.heap.size = w.heap.size + 3 ∧ W.heap[w.heap.size]? = some o0 ∧ W.heap[w.heap.size + 1]? = some o1 ∧ W.heap[w.heap.size + 1 + 1]? = some o2 ∧ Below w.heap.size w W := by
  refine ⟨_, rfl, by simp, ?_, ?_, ?_, (((Below.refl _ w).alloc (Nat.le_refl _) _).alloc (by simp) _).alloc (by simp; omega) _⟩
  · rw [Below.heap_alloc _ _ _ (by simp <;> omega), Below.heap_alloc _ _ _ (by simp)]
    exact World.alloc_heap_new w _
  · rw [Below.heap_alloc _ _ _ (by simp)]
    have := World.alloc_heap_new (w.alloc o0) o1
    simpa using this
  · have := World.alloc_heap_new ((w.alloc o0).alloc o1) o2
    simpa using this

theorem keeps_drew {B : Nat} {W W' : World} (h : KeepsFrom B W W') : KeepsFrom B W W'.drew := ⟨h.size, h.same⟩
theorem wsum {s m j d : Nat} (hd : m * 2 ^ j = d) (h : s + d ≤ 4611686018427387904) : IntKind.u64.wrap ((s : Int) + IntKind.u64.wrap (IntKind.u64.wrap (m : Int) * 2 ^ j)) = ((s + d : Nat) : Int) := by
  have h1 : 1 ≤ 2 ^ j := Nat.one_le_two_pow
  have h2 : m ≤ d := by rw [← hd]; exact Nat.le_mul_of_pos_right m (by omega)
  have e : (m : Int) * 2 ^ j = (d : Int) := by rw [← hd]; simp
  rw [IntWalk.u64_in (m : Int) ⟨by omega, by omega⟩, e, IntWalk.u64_in (d : Int) ⟨by omega, by omega⟩, IntWalk.u64_in _ ⟨by omega, by omega⟩]
  simp

set_option maxRecDepth 100000 in
set_option maxHeartbeats 2000000 in
theorem totalR_in (n : Nat) (hn : 3 ≤ n) (k g : Int) (ls : Lv) (hl : ls.length ≤ 60) (ht : tot ls ≤ 4611686018427387904) (w : World) (A : Option Addr) (c : Nat) (h : Reads w w.heap.size (.slice A ls.length c) ls) :
    CallsIn Fence.wide n Try.prog 85 #[hv k g (.slice A ls.length c)] w fun e w' => e = .returned (.int .u64 (tot ls : Int)) ∧ Below w.heap.size w w' := by
  have h1 : 1 ≤ n := by omega
  have HL := Lib.hid h
  clear h
  obtain ⟨N, hN⟩ : ∃ N, ls.length = N := ⟨_, rfl⟩
  rw [hN] at hl ⊢
  have HN := Lib.hid hN
  clear hN
  refine callsIn_of_wp_marks Try.func85 rfl trivial ?_ rfl
  simp only [Try.ntmps85, List.size_toArray, List.length_cons, List.length_nil, Nat.reduceAdd, Nat.reduceSub, Array.replicate_succ, Array.replicate_zero, List.push_toArray, List.append_toArray, List.nil_append, List.cons_append]
  gi_wp2_with (refine ⟨trivial, ?_⟩; gi_at_call 66; refine (levels_in (n - 1) k g _ _).mono ?_; rintro e w' ⟨rfl, rfl⟩)
  obtain ⟨W3, hW3, hsz, p0, p1, p2, hB3⟩ := heap_three w (.cells #[.int .i64 k, .int .i64 g, .slice A N c] 30) (.cells #[.int .u64 0] 61) (.cells #[.int .i64 k, .int .i64 g, .slice A N c] 30)
  rw [← hW3]
  have hL3 : Reads W3 w.heap.size (.slice A ls.length c) ls := HL.out.below hB3
  have seq := levels1_rd (n - 1) (by omega) w.heap.size (w.heap.size + 1 + 1) k g ls (by have := HN.out; omega) W3 (by omega) A c hL3 (by rw [HN.out]; exact p2)
  have hlev := HN.out
  refine range_n rfl h1 (gf := 82) (lb := #[.pointer (some ⟨w.heap.size + 1 + 1, 0, none⟩)]) rfl trivial (enters_of Try.func82 (by kernel_rfl) rfl)
    seq (fun h k => h.trans k) (Kb.put (by omega)) (PxL.put (by omega)) (Below.refl _ _) (fun _ => rfl)
    (fun j W => Boxed W (w.heap.size + 1) 61 (.int .u64 (totFrom 0 (ls.take j) : Nat)) ∧ Below w.heap.size w W)
    (fun _ _ _ => False)
    (fun j W W' row hs hg hr => ⟨hs.1.kept hg (fun e => by have := (hr _ e.symm).1; omega), hs.2.grown hg hs.2.size (fun j e => by have := (hr j e).1; omega)⟩)
    (fun _ _ _ _ _ hs _ _ => hs)
    ⟨p1, hB3⟩
    (fun x => { tmps := #[hv k g (.slice A N c), .pointer (some ⟨w.heap.size, 0, none⟩), .int .u64 0, .pointer (some ⟨w.heap.size + 1, 0, none⟩), .int .i64 (x.i : Int), .slice x.A x.n x.c, hv k g (.slice A N c),
      .func (.func 82) #[] #[.pointer (some ⟨w.heap.size + 1 + 1, 0, none⟩)], .int .i64 (x.i : Int), .slice x.A x.n x.c, undef, undef, undef, undef, undef, undef, undef, undef], defers := [] }) ?assign ?body ?done ?stop
  case assign =>
    intro l x W K hK
    gi_wp2
    exact hK
  case body =>
    rintro l j x W ⟨hv, hB⟩ ⟨hj, hx1, hx2, _⟩
    have hstep := totFrom_take hj
    have hle := totFrom_le ls (j + 1)
    rw [← lev_lt hj, ← hx2] at hstep
    rw [hx1]
    obtain ⟨s, hs⟩ : ∃ s, totFrom 0 (ls.take j) = s := ⟨_, rfl⟩
    obtain ⟨d, hd⟩ : ∃ d, x.n * 2 ^ j = d := ⟨_, rfl⟩
    rw [hs, hd] at hstep
    rw [hs] at hv
    generalize x.n = m at *
    generalize x.A = Ax at *
    generalize x.c = cx at *
    have hc := hv.cell
    have hf := hv.frozen
    have hj60 : j < 60 := by omega
    have hsd : s + d ≤ 4611686018427387904 := by omega
    have HV := Lib.hid hv
    have HST := Lib.hid hstep
    have HD := Lib.hid hd
    clear hv hstep hle hs hx1 hx2 hd seq p0 p1 p2 hL3 hj
    have hval := wsum HD.out hsd
    rw [← HST.out] at hval
    have HVAL := Lib.hid hval
    clear hval
    gi_wp2
    gi_region
    all_goals
      gi_wp2
      refine ⟨keeps_drew ((KeepsOthers.setCell _ _ _).from _), ⟨by simp [World.setCell, World.drew], fun b hb => Below.heap_setCell _ _ _ _ (by simp; omega)⟩, ?_, (hB.setCell (p := ⟨w.heap.size + 1, 0, none⟩) (by simp) _).drew⟩
      rw [HVAL.out]
      exact HV.out.set _
  case done =>
    rintro D _ W hD rfl ⟨hv, hB⟩ hK
    rw [List.take_length, tot_eq] at hv
    have hc := hv.cell
    gi_wp2
    refine ⟨by simp, .inl ⟨_, _, rfl, run_takeDeferred hK, ?_⟩⟩
    exact ⟨_, results_tmp rfl _ _ _, rfl, hB.trans (belowK_b (w := w) (Nat.le_refl _) W D _ _ (by omega) hK rfl rfl)⟩
  case stop =>
    rintro D c pre W _ h _
    exact h.elim

theorem total_rd (k g : Int) (ls : Lv) (hl : ls.length ≤ 60) (ht : tot ls ≤ 4611686018427387904) (w : World) (A : Option Addr) (c : Nat) (h : Reads w w.heap.size (.slice A ls.length c) ls) :
    Calls Try.prog 85 #[hv k g (.slice A ls.length c)] w fun e w' => e = .returned (.int .u64 (tot ls : Int)) ∧ Below w.heap.size w w' :=
  (callsIn_wide (n := 3)).1 (totalR_in 3 (by omega) k g ls hl ht w A c h)
theorem total_any (k g : Int) (ls : Lv) (hl : ls.length ≤ 60) (ht : tot ls ≤ 4611686018427387904) (w : World) (A : Option Addr) (c : Nat) (h : Levs w w.heap.size (.slice A ls.length c) ls) :
    Calls Try.prog 85 #[hv k g (.slice A ls.length c)] w fun e w' => e = .returned (.int .u64 (tot ls : Int)) ∧ Below w.heap.size w w' :=
  total_rd k g ls hl ht w A c h.reads

end Go.Proofs.Ytmdknedngiggdaa
end
