/- The contract of the function that hist.reached tells: it is ranged over. · The contract of hist.Add. · The contract of hist.Add: the walks. · The contract of skylightref06.Same. -/
import Derived.Test.YthncmjimfkbofaaJ06
section
/- The contract of the function that hist.reached tells: it is ranged over. -/
namespace Go.Proofs.Ythncmjimfkbofaa
open Go.RowKit Go.Shelf Go.Proofs.Rw Go.Proofs.Lh Go.Proofs.Rn Go.Proofs.Rf
open Go.Proofs.Lm (stay went leftN)

attribute [local go_sem] Oper.semAt_some

theorem room_rm (k j : Nat) : roomOf (leastI k j + 1) = rm k j := by
  unfold roomOf leastI rm
  by_cases h : j = 0
  · subst h
    simp
    omega
  · rw [if_neg h, if_neg (by omega)]
    omega
theorem least_small (k j : Nat) (hk : k ≤ 1024) : leastI k j + 1 ≤ 1000000 := by
  unfold leastI
  split <;> omega

end Go.Proofs.Ythncmjimfkbofaa
end
section
/- The contract of hist.Add. -/
namespace Go.Proofs.Ythncmjimfkbofaa
open Go.RowKit Go.Shelf Go.Proofs.Rw Go.Proofs.Lh Go.Proofs.Rn

attribute [local go_sem] Oper.semAt_some

theorem cell_cells {w : World} {a : Addr} {v : Value} (h : w.cell? a = some v) : ∃ o : Obj, w.heap[a.block]? = some o ∧ o.isCells = true := by
  unfold World.cell? at h
  cases ho : w.heap[a.block]? with
  | none => simp [ho] at h
  | some o => exact ⟨o, rfl, by cases o <;> simp_all [Obj.isCells]⟩
/-- What isn't cells is written. -/
theorem lies_other {w w' : World} {v : Value} {xs : List Sp} {row : Option Nat} (h : Lies spL w w.heap.size v xs) (hg : w.grownBy w' row) (hr : ∀ r, row = some r → ∃ o : Obj, w.heap[r]? = some o ∧ o.isCells = false) : Lies spL w' w'.heap.size v xs := by
  refine h.off2 hg fun hn b hb e => ?_
  obtain ⟨A, cap, rfl, _, _, h6⟩ := h
  rcases h6 with h6 | ⟨b', off, hb', rfl, hc⟩
  · exact hn h6
  · injection hb with hb
    have hb2 : b' = b := hb
    subst hb2
    cases xs with
    | nil => exact hn rfl
    | cons x xs =>
      obtain ⟨o, ho, hcl⟩ := cell_cells (hc 0 (.int .u64 x.1) rfl)
      obtain ⟨o', ho', hcl'⟩ := hr b' e.symm
      have ho2 : w.heap[b']? = some o := ho
      rw [ho2] at ho'
      injection ho' with ho'
      rw [ho', hcl'] at hcl
      cases hcl
/-- Blocks of unlike types are two. -/
theorem typed_ne {w : World} {a b : Nat} {ca cb : Array Value} {ta tb : TypeId} {fa fb : Nat × Nat} (ha : w.heap[a]? = some (.cells ca ta fa)) (hb : w.heap[b]? = some (.cells cb tb fb)) (hne : ta ≠ tb) : a ≠ b := by
  rintro rfl
  rw [ha] at hb
  injection hb with hb
  injection hb with _ hb _
  exact hne hb
/-- The levels behind j rounds. -/
def mix (R ls : Lv) (j : Nat) : Lv := R.take j ++ ls.drop j
theorem mix_set {R ls : Lv} {j : Nat} (hj : j < R.length) (hl : j < ls.length) : (mix R ls j).set j (lev R j) = mix R ls (j + 1) := by
  unfold mix
  have h1 : (R.take j).length = j := by simp; omega
  rw [List.set_append_right _ _ (by omega), h1, Nat.sub_self, drop_lev hl, List.set_cons_zero, List.take_succ_eq_append_getElem hj, ← lev_lt hj, List.append_assoc]
  rfl
theorem mix_app {R ls : Lv} {j : Nat} (hj : j < R.length) (hl : ls.length ≤ j) : (mix R ls j ++ [[]]).set j (lev R j) = mix R ls (j + 1) := by
  unfold mix
  have h1 : (R.take j).length = j := by simp; omega
  rw [List.drop_of_length_le hl, List.drop_of_length_le (by omega), List.append_nil, List.append_nil, List.set_append_right _ _ (by omega), h1, Nat.sub_self, List.set_cons_zero, List.take_succ_eq_append_getElem hj, ← lev_lt hj]
theorem mix_len {R ls : Lv} {j : Nat} (hj : j ≤ R.length) : (mix R ls j).length = max j ls.length := by
  unfold mix
  simp
  omega

/-- The blocks' places. -/
structure AddP (w0 : World) (base bx N0 : Nat) : Prop where
  p1 : w0.heap.size + 2 ≤ base
  p2 : base ≤ bx
  p3 : bx < N0

end Go.Proofs.Ythncmjimfkbofaa
end
section
/- The contract of hist.Add: the walks. -/
namespace Go.Proofs.Ythncmjimfkbofaa
open Go.RowKit Go.Shelf Go.Proofs.Rw Go.Proofs.Lh Go.Proofs.Rn

attribute [local go_sem] Oper.semAt_some

theorem set3 {W : World} {b : Nat} {x y z : Value} {T : TypeId} (h : W.heap[b]? = some (.cells #[x, y, z] T)) (x' y' z' : Value) :
    (((W.setCell ⟨b, 0, none⟩ x').setCell ⟨b, 1, none⟩ y').setCell ⟨b, 2, none⟩ z').heap[b]? = some (.cells #[x', y', z'] T) := by
  rw [set1 _ (set1 _ (set1 _ h))]
  rfl
theorem below3 {W : World} {b B : Nat} {w : World} (h : Below B w W) (hb : B ≤ b) (x' y' z' : Value) : Below B w (((W.setCell ⟨b, 0, none⟩ x').setCell ⟨b, 1, none⟩ y').setCell ⟨b, 2, none⟩ z') :=
  ((h.setCell (p := ⟨b, 0, none⟩) hb _).setCell (p := ⟨b, 1, none⟩) hb _).setCell (p := ⟨b, 2, none⟩) hb _
theorem grown3 {W : World} {b : Nat} (x' y' z' : Value) : W.grownBy (((W.setCell ⟨b, 0, none⟩ x').setCell ⟨b, 1, none⟩ y').setCell ⟨b, 2, none⟩ z') (some b) :=
  grown_trans (grown_trans (grown_set _ _ _ _) (grown_set _ _ _ _)) (grown_set _ _ _ _)
theorem may_of {k : Nat} (h2 : 2 ≤ k) (h1 : k ≤ 1024) : may (k : Int) = true := by
  unfold may
  rw [decide_eq_true_iff]
  omega

end Go.Proofs.Ythncmjimfkbofaa
end
section
/- The contract of skylightref06.Same. -/
namespace Go.Proofs.Ythncmjimfkbofaa
open Go.RowKit Go.Shelf Go.Proofs.Rw Go.Proofs.Lh Go.Proofs.Rf

theorem heap_two (w : World) (o0 o1 : Obj) : ∃ W, W = (w.alloc o0).alloc o1 ∧ W.heap.size = w.heap.size + 2 ∧ W.heap[w.heap.size]? = some o0 ∧ W.heap[w.heap.size + 1]? = some o1 ∧ Below w.heap.size w W := by
  refine ⟨_, rfl, by simp, ?_, ?_, ((Below.refl _ w).alloc (Nat.le_refl _) _).alloc (by simp) _⟩
  · rw [Below.heap_alloc _ _ _ (by simp)]
    exact World.alloc_heap_new w _
  · have := World.alloc_heap_new (w.alloc o0) o1
    simpa using this

end Go.Proofs.Ythncmjimfkbofaa
end
