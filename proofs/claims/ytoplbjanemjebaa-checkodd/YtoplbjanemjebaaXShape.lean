/- Plain mathematics of a histogram's shape, level by level. -/
import Derived.Test.YtoplbjanemjebaaXMath
namespace Go.Proofs.Lh
open Go.Proofs.Lm (Sp Turn)
theorem shape_at {k : Nat} (hk : 1 ≤ k) : ∀ {ls : Lv} {i : Nat} (j : Nat), Shape k i ls → j < ls.length → 1 ≤ (lev ls j).length ∧ (lev ls j).length ≤ rm k (i + j) ∧ (j + 1 ≠ ls.length → rm k (i + j) - 1 ≤ (lev ls j).length)
  | [], _, _, _, h => absurd h (by simp)
  | [l], i, 0, h, _ => ⟨h.1, h.2, fun e => absurd rfl e⟩
  | [l], i, j + 1, _, hj => absurd hj (by simp)
  | l :: m :: ls, i, 0, h, _ => ⟨by have := rm_two k i hk; have := h.1; show 1 ≤ l.length; omega, h.2.1, fun _ => h.1⟩
  | l :: m :: ls, i, j + 1, h, hj => by
    have := shape_at hk j h.2.2 (by simpa using hj)
    rw [show i + 1 + j = i + (j + 1) by omega] at this
    refine ⟨this.1, this.2.1, fun e => this.2.2 fun e' => e ?_⟩
    simp at e' ⊢
    omega
theorem allOf_drop {L : Lv} {i : Nat} (h : i < L.length) : allOf (L.drop i) = allOf (L.drop (i + 1)) ++ lev L i := by
  rw [drop_lev h]
  rfl
theorem allOf_pre : ∀ (L : Lv) (m : Nat), ∃ suf, allOf L = allOf (L.drop m) ++ suf
  | [], m => ⟨[], by simp [allOf]⟩
  | l :: ls, 0 => ⟨[], by simp⟩
  | l :: ls, m + 1 => by
    obtain ⟨suf, h⟩ := allOf_pre ls m
    exact ⟨suf ++ l, by rw [allOf, h, List.drop_succ_cons, List.append_assoc]⟩
/-- The To of the last one, or 0. -/
def ahead (xs : List Sp) : Nat := (xs.getLast?.map (·.2)).getD 0
theorem ahead_snoc (xs : List Sp) (s : Sp) : ahead (xs ++ [s]) = s.2 := by simp [ahead]
theorem turn_next {xs ys : List Sp} {s : Sp} (h : Turn (xs ++ s :: ys)) : ahead xs ≤ s.1 ∧ s.1 ≤ s.2 := by
  obtain ⟨h1, h2, h3⟩ := turn_app.1 h
  refine ⟨?_, h2.1 s (by simp)⟩
  unfold ahead
  cases hl : xs.getLast? with
  | none => simp
  | some x => exact h3 x (List.mem_of_getLast? hl) s (by simp)
theorem turn_drop {L : Lv} (h : Turn (allOf L)) (m : Nat) : Turn (allOf (L.drop m)) := by
  obtain ⟨suf, e⟩ := allOf_pre L m
  rw [e] at h
  exact (turn_app.1 h).1
theorem flat_at {L : Lv} (h : flat L) (x : Sp) (hx : x ∈ lev L 0) : x.1 = x.2 := by
  cases L with
  | nil => simp [lev] at hx
  | cons l ls => exact h x hx
theorem lev_turn {L : Lv} (h : Turn (allOf L)) {i j : Nat} (hi : i < L.length) (hj : j < (lev L i).length) : ahead (allOf (L.drop (i + 1)) ++ (lev L i).take j) ≤ (lev L i)[j].1 ∧ (lev L i)[j].1 ≤ (lev L i)[j].2 := by
  have h1 := turn_drop h i
  rw [allOf_drop hi] at h1
  refine turn_next (ys := (lev L i).drop (j + 1)) ?_
  rw [List.append_assoc, ← List.drop_eq_getElem_cons hj, List.take_append_drop]
  exact h1

/-- A level of what is left. -/
theorem lev_trim : ∀ (M : Lv) (i : Nat), lev (trim M) i = lev M i
  | [], _ => rfl
  | l :: ls, i => by
    rw [trim]
    split
    · rename_i h
      cases i with
      | zero => rw [h.1]; rfl
      | succ i =>
        have := lev_trim ls i
        rw [h.2] at this
        show lev [] (i + 1) = lev ls i
        rw [← this]
        rfl
    · cases i with
      | zero => rfl
      | succ i => exact lev_trim ls i
theorem lev_map (f w : Nat) (L : Lv) (i : Nat) : lev (L.map (cutL f w)) i = cutL f w (lev L i) := by
  unfold lev
  rw [List.getElem?_map]
  cases L[i]? <;> rfl
theorem lev_drop (f w : Nat) (L : Lv) (i : Nat) : lev (dropL f w L) i = cutL f w (lev L i) := by
  unfold dropL
  rw [lev_trim, lev_map]
theorem drop_len (f w : Nat) (L : Lv) : (dropL f w L).length ≤ L.length := by
  unfold dropL
  have := trim_len (L.map (cutL f w))
  simpa using this
theorem turn_lev {L : Lv} (h : Turn (allOf L)) {i : Nat} (hi : i < L.length) : Turn (lev L i) := by
  have h1 := turn_drop h i
  rw [allOf_drop hi] at h1
  exact (turn_app.1 h1).2.1

end Go.Proofs.Lh
