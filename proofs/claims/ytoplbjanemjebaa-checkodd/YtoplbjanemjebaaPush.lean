/- The contract of level.Push. -/
import Derived.Test.YtoplbjanemjebaaConcat
namespace Go.Proofs.Ytoplbjanemjebaa
open Go.RowKit Go.Proofs.Rw
open Go.Proofs.Lm (el two pairs wentN stayN leftN went stay)

/-- A row of n, of which k are there. -/
def rowTo (f : Nat → Sp) (n k : Nat) : List Sp := (List.range n).map fun j => if j < k then f j else (0, 0)
theorem rowTo_len (f : Nat → Sp) (n k : Nat) : (rowTo f n k).length = n := by simp [rowTo]
theorem rowTo_all (f : Nat → Sp) (n : Nat) : rowTo f n n = (List.range n).map f := by
  unfold rowTo
  refine List.map_congr_left fun j hj => ?_
  rw [if_pos (List.mem_range.1 hj)]
theorem rowTo_set (f : Nat → Sp) (n k : Nat) : rowTo f n (k + 1) = (rowTo f n k).set k (f k) := by
  apply List.ext_getElem
  · simp [rowTo]
  · intro i h1 h2
    simp only [rowTo, List.getElem_map, List.getElem_range, List.getElem_set]
    by_cases h : k = i
    · subst h; simp
    · rw [if_neg h]
      by_cases h' : i < k
      · rw [if_pos (by omega), if_pos h']
      · rw [if_neg (by omega), if_neg h']
theorem cells_set (xs : List Sp) (k : Nat) (a b : Nat) : spL.cells (xs.set k (a, b)) = ((spL.cells xs).set (k * 2) (.int .u64 a)).set (k * 2 + 1) (.int .u64 b) := by
  induction xs generalizing k with
  | nil => simp [Lay.cells]
  | cons x xs ih =>
    cases k with
    | zero => simp [Lay.cells, spL]
    | succ k =>
      rw [List.set_cons_succ, cells_cons, cells_cons, ih]
      show spL.enc x ++ _ = _
      rw [show spL.enc x = [.int .u64 x.1, .int .u64 x.2] from rfl, show (k + 1) * 2 = k * 2 + 1 + 1 by omega, show k * 2 + 1 + 1 + 1 = (k * 2 + 1) + 1 + 1 by omega]
      rfl
theorem made_zero (n : Nat) (f : Nat → Sp) : (madeCells (Value.agg #[.int .u64 0, .int .u64 0]).cells (n * 2)).toList = spL.cells (rowTo f n 0) := by
  apply List.ext_getElem?
  intro j
  by_cases hj : j < n * 2
  · obtain ⟨i, k, hk, rfl⟩ : ∃ i k, k < 2 ∧ j = i * 2 + k := ⟨j / 2, j % 2, by omega, by omega⟩
    have e := cells_at spL (rowTo f n 0) i k (by rw [rowTo_len]; omega) hk
    rw [show spL.size = 2 from rfl] at e
    rw [e]
    have : (rowTo f n 0)[i]'(by rw [rowTo_len]; omega) = (0, 0) := by simp [rowTo]
    rw [this]
    rcases k with _ | _ | k
    · simp [madeCells, Value.cells, spL, show i * 2 < n * 2 by omega]
    · simp [madeCells, Value.cells, spL, hj, show (i * 2 + 1) % 2 = 1 by omega]
    · omega
  · rw [List.getElem?_eq_none (by simp [madeCells]; omega), List.getElem?_eq_none (by rw [cells_len, rowTo_len]; show n * 2 ≤ j; omega)]

/-- Two stores into a row of the call's own. -/
theorem own_set {w : World} {base g n : Nat} {xs : List Sp} (h : Own w base (.slice (some ⟨g, 0, none⟩) n n) xs) (hn : xs.length = n) (k a b : Nat) :
    Own ((w.setCell ⟨g, k * 2, none⟩ (.int .u64 a)).setCell ⟨g, k * 2 + 1, none⟩ (.int .u64 b)) base (.slice (some ⟨g, 0, none⟩) n n) (xs.set k (a, b)) ∧
      w.grownBy ((w.setCell ⟨g, k * 2, none⟩ (.int .u64 a)).setCell ⟨g, k * 2 + 1, none⟩ (.int .u64 b)) (some g) := by
  unfold Own at *
  rw [hn] at h
  obtain ⟨h1, h2⟩ := h.stored (k * 2) (.int .u64 a)
  obtain ⟨h3, h4⟩ := h1.stored (k * 2 + 1) (.int .u64 b)
  rw [List.length_set, cells_set, hn]
  exact ⟨h3, grown_trans h2 h4⟩

theorem el_min (xs : List Sp) (t j : Nat) : el xs t (min j xs.length) = el xs t j := by
  rcases Nat.lt_or_ge j xs.length with h | h
  · rw [Nat.min_eq_left (by omega)]
  · rw [Nat.min_eq_right h, Lm.el_ge (Nat.le_refl _), Lm.el_ge h]
/-- The two cells of an element of an own row. -/
theorem own_cells {w : World} {base g n : Nat} {xs : List Sp} (h : Own w base (.slice (some ⟨g, 0, none⟩) n n) xs) (hn : xs.length = n) (k : Nat) (hk : k < n) :
    (∃ u, w.cell? ⟨g, k * 2, none⟩ = some u) ∧ (∃ u, w.cell? ⟨g, k * 2 + 1, none⟩ = some u) ∧ w.frozen? ⟨g, k * 2, none⟩ = false ∧ w.frozen? ⟨g, k * 2 + 1, none⟩ = false := by
  unfold Own at h
  rw [hn] at h
  have e0 := h.cellAt (k * 2) (by omega)
  have e1 := h.cellAt (k * 2 + 1) (by omega)
  have hcl : (spL.cells xs).length = n * 2 := by rw [cells_len, hn]; rfl
  rw [List.getElem?_eq_getElem (by omega)] at e0 e1
  exact ⟨⟨_, e0⟩, ⟨_, e1⟩, h.frozenAt _, h.frozenAt _⟩
theorem own_other {w w' : World} {base g n k : Nat} {xs : List Sp} (h : Own w base (.slice (some ⟨g, 0, none⟩) n n) xs) (hg : w.grownBy w' (some k)) (hk : k ≠ g) : Own w' base (.slice (some ⟨g, 0, none⟩) n n) xs :=
  h.kept hg (.inr (by simp [Value.ownBlock]; omega))

/-- For how many there is room. -/
def roomOf (most : Int) : Nat := (max most 1).toNat

/-- The three results of 'Push'. -/
def Pushed (w w' : World) (e : Ending) (stays wents : List Sp) (k : Nat) : Prop :=
  ∃ b1 b2 : Nat, e = .returned (.tuple #[.slice (some ⟨b1, 0, none⟩) stays.length stays.length, .slice (some ⟨b2, 0, none⟩) wents.length wents.length, .int .u64 (k : Int)]) ∧ w.heap.size ≤ b1 ∧ w.heap.size ≤ b2 ∧ b1 ≠ b2 ∧
    Own w' w.heap.size (.slice (some ⟨b1, 0, none⟩) stays.length stays.length) stays ∧ Own w' w.heap.size (.slice (some ⟨b2, 0, none⟩) wents.length wents.length) wents ∧ Below w.heap.size w w'

end Go.Proofs.Ytoplbjanemjebaa
