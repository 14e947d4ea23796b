/- More plain mathematics of histograms: one level of them, how many there are, what Add answers, round by round. -/
import Derived.Test.YtoplbjanemjebaaHiMath
namespace Go.Proofs.Lh
open Go.Proofs.Lm (Sp el two pairs wentN stayN leftN went stay Turn)

/-- The level i; behind the last one it is empty. -/
def lev (ls : Lv) (i : Nat) : List Sp := ls[i]?.getD []
theorem lev_lt {ls : Lv} {i : Nat} (h : i < ls.length) : lev ls i = ls[i] := by simp [lev, List.getElem?_eq_getElem h]
theorem lev_ge {ls : Lv} {i : Nat} (h : ls.length ≤ i) : lev ls i = [] := by simp [lev, List.getElem?_eq_none h]
theorem drop_lev {ls : Lv} {i : Nat} (h : i < ls.length) : ls.drop i = lev ls i :: ls.drop (i + 1) := by rw [lev_lt h]; exact List.drop_eq_getElem_cons h

theorem few_lev {k : Nat} : ∀ {ls : Lv} {i : Nat} (j : Nat), Few k i ls → (lev ls j).length ≤ rm k (i + j)
  | [], _, _, _ => by simp [lev]
  | l :: ls, i, 0, h => h.1
  | l :: ls, i, j + 1, h => by
    have := few_lev (ls := ls) j h.2
    rw [show i + 1 + j = i + (j + 1) by omega] at this
    exact this
theorem few_drop {k : Nat} : ∀ {ls : Lv} {i : Nat} (j : Nat), Few k i ls → Few k (i + j) (ls.drop j)
  | [], _, _, _ => by simp [Few]
  | _ :: _, _, 0, h => h
  | l :: ls, i, j + 1, h => by
    have := few_drop (ls := ls) j h.2
    rw [show i + 1 + j = i + (j + 1) by omega] at this
    exact this
theorem rm_le (k i : Nat) : rm k i ≤ k + 2 := by unfold rm; split <;> omega

/-- One step of what comes: whatever the level is. -/
theorem addL_step (k i : Nat) (ls : Lv) (come : List Sp) (h : come ≠ [] ∨ i < ls.length) : addL k i (ls.drop i) come = stayL (lev ls i ++ come) (rm k i) :: addL k (i + 1) (ls.drop (i + 1)) (wentL (lev ls i ++ come) (rm k i)) := by
  rcases Nat.lt_or_ge i ls.length with hi | hi
  · rw [drop_lev hi, addL]
  · rw [List.drop_of_length_le hi, List.drop_of_length_le (by omega), lev_ge hi, List.nil_append]
    have hc : come ≠ [] := h.resolve_right (by omega)
    rw [addL, addL, newL_ne k i hc]

/-- So many levels there may be: each has a unit of its size. -/
theorem shape_many {k : Nat} (hk : 1 ≤ k) : ∀ {ls : Lv} {i : Nat}, Shape k i ls → ls ≠ [] → 2 ^ (ls.length - 1) ≤ tot ls
  | [], _, _, h => absurd rfl h
  | [l], _, h, _ => by have := h.1; simp [tot]; omega
  | l :: m :: ls, i, h, _ => by
    have := shape_many hk h.2.2 (by simp)
    rw [tot, List.length_cons, show (m :: ls).length + 1 - 1 = (m :: ls).length - 1 + 1 by simp, Nat.pow_succ]
    omega
theorem few_levels {k : Nat} (hk : 1 ≤ k) {ls : Lv} {i : Nat} (h : Shape k i ls) (ht : tot ls ≤ 4503599627370496) : ls.length ≤ 53 := by
  by_cases hn : ls = []
  · subst hn; simp
  · have := shape_many hk h hn
    rcases Nat.lt_or_ge 53 ls.length with h2 | h2
    · have h3 : 2 ^ 53 ≤ 2 ^ (ls.length - 1) := Nat.pow_le_pow_right (by omega) (by omega)
      omega
    · exact h2

/-- What Add answers: an error's number, or 0. -/
def may (k : Int) : Bool := decide (2 ≤ k ∧ k ≤ 1024)
def code (ls : Lv) (t n : Nat) : Nat :=
  if n = 0 then 1 else if 9223372036854775807 < t ∨ t < (lastOf ls).getD 0 then 6 else if 4503599627370496 < n ∨ 4503599627370496 < n + tot ls then 5 else 0

/-- A histogram that was made: its shape, its turn, its units. -/
structure Made (k : Nat) (ls : Lv) : Prop where
  k2 : 2 ≤ k
  k1 : k ≤ 1024
  ok : Ok k ls
  small : tot ls ≤ 4503599627370496
theorem Made.nil {k : Nat} (h : 2 ≤ k) (h1 : k ≤ 1024) : Made k [] := ⟨h, h1, Ok.nil k, by simp [tot]⟩
theorem Made.len {k : Nat} {ls : Lv} (h : Made k ls) : ls.length ≤ 53 := few_levels (by have := h.k2; omega) h.ok.shape h.small
theorem Made.few {k : Nat} {ls : Lv} (h : Made k ls) : Few k 0 ls := h.ok.few
theorem Made.lev {k : Nat} {ls : Lv} (h : Made k ls) (i : Nat) : (lev ls i).length ≤ 1026 := by
  have h1 := few_lev i h.few
  have h2 := rm_le k (0 + i)
  have := h.k1
  omega
theorem Made.add {k : Nat} {ls : Lv} (h : Made k ls) {t n : Nat} (hc : code ls t n = 0) : Made k (addW k ls t n) := by
  unfold code at hc
  split at hc
  · omega
  split at hc
  · omega
  split at hc
  · omega
  refine ⟨h.k2, h.k1, h.ok.add (by have := h.k2; omega) t n ?_, ?_⟩
  · intro last hl
    rename_i h2 _
    rw [hl] at h2
    simp at h2
    omega
  · rw [addW_tot]
    omega

/-- A level's units and those behind it. -/
theorem tot_lev : ∀ (ls : Lv) (i : Nat), totFrom 0 (ls.take i) + totFrom i (ls.drop i) = tot ls := by
  intro ls i
  rcases Nat.lt_or_ge ls.length i with h | h
  · rw [List.take_of_length_le (by omega), List.drop_of_length_le (by omega), totFrom]
    exact tot_eq ls
  · have := totFrom_app (ls.take i) (ls.drop i) 0
    rw [List.take_append_drop, List.length_take, Nat.min_eq_left h, Nat.zero_add] at this
    rw [← this]
    exact tot_eq ls
theorem totFrom_take {ls : Lv} {i : Nat} (h : i < ls.length) : totFrom 0 (ls.take (i + 1)) = totFrom 0 (ls.take i) + ls[i].length * 2 ^ i := by
  rw [List.take_succ_eq_append_getElem h, totFrom_app, List.length_take, Nat.min_eq_left (by omega), Nat.zero_add]
  simp [totFrom]
theorem totFrom_le (ls : Lv) (i : Nat) : totFrom 0 (ls.take i) ≤ tot ls := by have := tot_lev ls i; omega

/-! ### Round by round: what stands there at round i -/

/-- At round i so much comes to the level i, and R is what all that makes. -/
structure At (k : Nat) (ls : Lv) (t : Nat) (R : Lv) (i : Nat) (come : List Sp) (many : Nat) : Prop where
  rest : R.drop i = addL k i (ls.drop i) (full come t many)
  few : come.length ≤ 2000
  most : many ≤ 4503599627370496
theorem At.start (k : Nat) (ls : Lv) (t n : Nat) (hn : n ≤ 4503599627370496) : At k ls t (addW k ls t n) 0 [] n := ⟨by simp [addW, full], by simp, hn⟩
theorem full_nil {come : List Sp} {t many : Nat} : full come t many = [] ↔ come.length = 0 ∧ many = 0 := by simp [full]

theorem full_app (l come : List Sp) (t many : Nat) : l ++ full come t many = full (l ++ come) t many := by simp [full]
/-- The round: what stays is the level i of R, and what goes comes to the next. -/
theorem At.next {k : Nat} {ls R : Lv} {t i many : Nat} {come : List Sp} (h : At k ls t R i come many) (hl : (lev ls i).length ≤ 1026) (hgo : full come t many ≠ [] ∨ i < ls.length) :
    i < R.length ∧ lev R i = stay (lev ls i ++ come) t many (rm k i) ∧ At k ls t R (i + 1) (went (lev ls i ++ come) t many (rm k i)) (leftN (lev ls i ++ come).length many (rm k i)) := by
  have e := h.rest
  rw [addL_step k i ls _ hgo, full_app, ← stay_full _ _ _ _ (rm_pos k i), ← went_full_list _ _ _ _ (rm_pos k i)] at e
  have hi : i < R.length := by
    rcases Nat.lt_or_ge i R.length with hi | hi
    · exact hi
    · rw [List.drop_of_length_le hi] at e
      cases e
  rw [drop_lev hi] at e
  injection e with e1 e2
  refine ⟨hi, e1, ⟨e2, ?_, ?_⟩⟩
  · rw [Lm.went_len]
    have h1 := Lm.wentN_half (lev ls i ++ come).length many (rm k i)
    have h2 := h.few
    rw [List.length_append] at h1 ⊢
    omega
  · have h1 := Lm.leftN_le (lev ls i ++ come).length many (rm k i) (rm_pos k i)
    have h2 := h.most
    omega
/-- Nothing comes any more: the levels from here on are as they were. -/
theorem At.done {k : Nat} {ls R : Lv} {t i many : Nat} {come : List Sp} (h : At k ls t R i come many) (hf : Few k 0 ls) (hz : full come t many = []) : R.drop i = ls.drop i := by
  rw [h.rest, hz]
  have := few_drop i hf
  rw [Nat.zero_add] at this
  exact addL_none k _ i this
theorem At.over {k : Nat} {ls R : Lv} {t i many : Nat} {come : List Sp} (h : At k ls t R i come many) (hi : ls.length ≤ i) (hz : full come t many = []) : R.length ≤ i := by
  have e := h.rest
  rw [hz, List.drop_of_length_le hi, addL, newL_nil] at e
  have := congrArg List.length e
  simp at this
  omega

end Go.Proofs.Lh
