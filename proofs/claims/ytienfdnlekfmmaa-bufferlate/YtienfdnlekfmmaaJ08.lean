/- The contract of skylightref06.Same. · The contract of skylightref06.Add. · The contract of skylightref06.Add, where it refuses. · What stage 6's laws call by themselves: same, made, awake; and what weight that comes makes of a histogram. -/
import Derived.Test.YtienfdnlekfmmaaJ06
import Derived.Test.YtienfdnlekfmmaaJ07
import Derived.Deep.CutRange
section
/- The contract of skylightref06.Same. -/
namespace Go.Proofs.Ytienfdnlekfmmaa
open Go.RowKit Go.Shelf Go.Proofs.Rw Go.Proofs.Lh Go.Proofs.Rf

theorem heap_two (w : World) (o0 o1 : Obj) : ∃ W, W = (w.alloc o0).alloc o1 ∧ W.heap.size = w.heap.size + 2 ∧ W.heap[w.heap.size]? = some o0 ∧ W.heap[w.heap.size + 1]? = some o1 ∧ Below w.heap.size w W := by
  refine ⟨_, rfl, by simp, ?_, ?_, ((Below.refl _ w).alloc (Nat.le_refl _) _).alloc (by simp) _⟩
  · rw [Below.heap_alloc _ _ _ (by simp)]
    exact World.alloc_heap_new w _
  · have := World.alloc_heap_new (w.alloc o0) o1
    simpa using this

end Go.Proofs.Ytienfdnlekfmmaa
end
section
/- The contract of skylightref06.Add. -/
namespace Go.Proofs.Ytienfdnlekfmmaa
open Go.RowKit Go.Shelf Go.Proofs.Rw Go.Proofs.Lh Go.Proofs.Rf
open Go.Proofs.Lm (stay went leftN)

theorem take_one {R : Lv} {j : Nat} (h : j < R.length) {st : List Sp} (hs : st = lev R j) : R.take j ++ [st] = R.take (j + 1) := by
  rw [hs, lev_lt h, List.take_succ_eq_append_getElem h]

end Go.Proofs.Ytienfdnlekfmmaa
end
section
/- The contract of skylightref06.Add, where it refuses. -/
namespace Go.Proofs.Ytienfdnlekfmmaa
open Go.RowKit Go.Shelf Go.Proofs.Rw Go.Proofs.Lh

theorem last_none {ls : Lv} (h : (lastOf ls).isSome = false) : (lastOf ls).getD 0 = 0 := by
  cases hl : lastOf ls with
  | none => rfl
  | some x => rw [hl] at h; cases h

end Go.Proofs.Ytienfdnlekfmmaa
end
section
/- What stage 6's laws call by themselves: same, made, awake; and what weight that comes makes of a histogram. -/
namespace Go.Proofs.Lh
open Go.Proofs.Lm (Sp)

/-- One deed: so many ticks later so much weight; what is refused is passed over. -/
def stepP (k : Nat) (s : Nat × Lv) (d : Sp) : Nat × Lv := if code s.2 (s.1 + d.1 % 1000) d.2 = 0 then (s.1 + d.1 % 1000, addW k s.2 (s.1 + d.1 % 1000) d.2) else (s.1 + d.1 % 1000, s.2)
def play (k : Nat) (ds : List Sp) (j : Nat) : Nat × Lv := (ds.take j).foldl (stepP k) (0, [])
theorem play_zero (k : Nat) (ds : List Sp) : play k ds 0 = (0, []) := by simp [play]
theorem play_succ (k : Nat) (ds : List Sp) (j : Nat) (h : j < ds.length) : play k ds (j + 1) = stepP k (play k ds j) ds[j] := by
  unfold play
  rw [List.take_succ_eq_append_getElem h, List.foldl_append]
  rfl
theorem step_tick (k : Nat) (s : Nat × Lv) (d : Sp) : (stepP k s d).1 = s.1 + d.1 % 1000 := by unfold stepP; split <;> rfl
theorem step_levs (k : Nat) (s : Nat × Lv) (d : Sp) : (stepP k s d).2 = if code s.2 (s.1 + d.1 % 1000) d.2 = 0 then addW k s.2 (s.1 + d.1 % 1000) d.2 else s.2 := by unfold stepP; split <;> rfl
theorem step_made {k : Nat} {s : Nat × Lv} (h : Made k s.2) (d : Sp) : Made k (stepP k s d).2 := by
  rw [step_levs]
  split
  · exact h.add (by assumption)
  · exact h
theorem play_made {k : Nat} (h2 : 2 ≤ k) (h1 : k ≤ 1024) (ds : List Sp) : ∀ j, j ≤ ds.length → Made k (play k ds j).2
  | 0, _ => by rw [play_zero]; exact Made.nil h2 h1
  | j + 1, h => by rw [play_succ k ds j (by omega)]; exact step_made (play_made h2 h1 ds j (by omega)) _
theorem play_tick (k : Nat) (ds : List Sp) : ∀ j, j ≤ ds.length → (play k ds j).1 ≤ 1000 * j
  | 0, _ => by rw [play_zero]; simp
  | j + 1, h => by
    rw [play_succ k ds j (by omega), step_tick]
    have := play_tick k ds j (by omega)
    omega
/-- No unit is later than the tick. -/
theorem play_last (k : Nat) (hk : 2 ≤ k) (hk1 : k ≤ 1024) (ds : List Sp) : ∀ j, j ≤ ds.length → ∀ last, lastOf (play k ds j).2 = some last → last ≤ (play k ds j).1
  | 0, _ => by rw [play_zero]; intro last h; cases h
  | j + 1, h => by
    have ih := play_last k hk hk1 ds j (by omega)
    have hm := play_made hk hk1 ds j (by omega)
    rw [play_succ k ds j (by omega), step_tick, step_levs]
    intro last hl
    split at hl
    · rename_i hc
      have hn : 1 ≤ (ds[j]'(by omega)).2 := by
        rcases Nat.eq_zero_or_pos (ds[j]'(by omega)).2 with e | e
        · unfold code at hc; rw [if_pos e] at hc; omega
        · exact e
      rw [addW_last k (by omega) _ _ _ hm.ok.shape hn] at hl
      injection hl with hl
      omega
    · have := ih last hl
      omega

/-- What Add tells: its histogram. -/
def outL (k : Nat) (ls : Lv) (t n : Nat) : Lv := if code ls t n = 0 then addW k ls t n else []
def outK (k : Nat) (ls : Lv) (t n : Nat) : Int := if code ls t n = 0 then (k : Int) else 0

theorem four : addW 2 [] 5 4 = [[(5, 5), (5, 5)], [(5, 5)]] := by
  unfold addW addL
  rw [newL_ne _ _ (by simp), newL_ne _ _ (by decide)]
  rw [show wentL (wentL (List.replicate 4 (5, 5)) (rm 2 0)) (rm 2 (0 + 1)) = [] by decide, newL_nil]
  decide
end Go.Proofs.Lh
namespace Go.Proofs.Ytienfdnlekfmmaa
open Go.RowKit Go.Shelf Go.Proofs.Rw Go.Proofs.Lh

end Go.Proofs.Ytienfdnlekfmmaa
end
