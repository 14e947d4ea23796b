/- More plain mathematics of what is dropped: level by level, from the last one, and from the first one. -/
import Derived.Test.YtoplbjanemjebaaHxMath
namespace Go.Proofs.Lh
open Go.Proofs.Lm (Sp Turn)

theorem trim_none : ∀ {M : Lv}, (∀ l ∈ M, l = []) → trim M = []
  | [], _ => rfl
  | l :: ls, h => by
    rw [trim, if_pos ⟨h l List.mem_cons_self, trim_none fun m hm => h m (List.mem_cons_of_mem _ hm)⟩]
theorem trim_stop : ∀ (A : Lv) {x : List Sp} {B : Lv}, x ≠ [] → (∀ l ∈ B, l = []) → trim (A ++ x :: B) = A ++ [x]
  | [], x, B, hx, hB => by
    rw [List.nil_append, List.nil_append, trim, trim_none hB, if_neg fun h => hx h.1]
  | a :: A, x, B, hx, hB => by
    rw [List.cons_append, trim, trim_stop A hx hB, if_neg (fun h => by simp at h), List.cons_append]
theorem trim_snoc (M : Lv) (x : List Sp) : trim (M ++ [x]) = if x = [] then trim M else M ++ [x] := by
  by_cases hx : x = []
  · rw [if_pos hx, hx]
    induction M with
    | nil => rfl
    | cons a A ih => rw [List.cons_append, trim, trim, ih]
  · rw [if_neg hx]
    exact trim_stop M hx fun l hl => by cases hl
theorem trim_len : ∀ M : Lv, (trim M).length ≤ M.length
  | [] => Nat.le_refl _
  | l :: ls => by
    have := trim_len ls
    rw [trim]
    split
    · simp
    · simp; omega
theorem trim_take : ∀ M : Lv, M.take (trim M).length = trim M
  | [] => rfl
  | l :: ls => by
    rw [trim]
    split
    · rfl
    · rw [List.length_cons, List.take_succ_cons, trim_take ls]

/-- All of a level is old. -/
def Gone (f w : Nat) (l : List Sp) : Prop := ∀ x ∈ l, oldB x.2 f w = true
theorem Gone.cut {f w : Nat} {l : List Sp} (h : Gone f w l) : cutL f w l = [] := by
  unfold cutL
  rw [List.filter_eq_nil_iff]
  intro x hx
  rw [h x hx]
  simp
/-- From the last level on: all levels from i + 1 on are old, the first j of the level i, too, and the next one isn't. -/
theorem drop_stop {f w i j : Nat} {ls : Lv} (ht : Turn (allOf ls)) (hi : i < ls.length) (hg : ∀ m, i < m → Gone f w (lev ls m)) (hj : j < (lev ls i).length) (ho : Gone f w ((lev ls i).take j)) (hn : oldB ((lev ls i)[j]).2 f w = false) :
    dropL f w ls = ls.take i ++ [(lev ls i).drop j] := by
  have e : ls = ls.take i ++ lev ls i :: ls.drop (i + 1) := by
    rw [← drop_lev hi, List.take_append_drop]
  have hle := lev_lt hi
  have ht2 := ht
  rw [e] at ht2
  have hall : ∀ (A : Lv) (x : List Sp) (B : Lv), allOf (A ++ x :: B) = allOf B ++ x ++ allOf A := by
    intro A x B
    induction A with
    | nil => simp [allOf]
    | cons a A ih => rw [List.cons_append, allOf, ih, allOf]; simp
  rw [hall] at ht2
  obtain ⟨t1, t2, t3⟩ := turn_app.1 ht2
  obtain ⟨t4, t5, t6⟩ := turn_app.1 t1
  generalize hl : lev ls i = l at *
  have hsp : l = l.take j ++ l[j] :: l.drop (j + 1) := by
    rw [← List.drop_eq_getElem_cons hj, List.take_append_drop]
  -- the level i
  have hcut : cutL f w l = l.drop j := by
    have h1 : cutL f w l = cutL f w (l.take j) ++ cutL f w (l.drop j) := by
      unfold cutL
      rw [← List.filter_append, List.take_append_drop]
    have h2 : cutL f w (l.drop j) = l.drop j := by
      refine cut_all fun x hx => ?_
      rw [List.drop_eq_getElem_cons hj] at hx
      rcases List.mem_cons.1 hx with rfl | hx
      · exact hn
      · have h3 : Turn (l[j] :: l.drop (j + 1)) := by
          rw [← List.drop_eq_getElem_cons hj]
          exact turn_sub t5 (List.drop_sublist _ _)
        have h4 := (List.pairwise_cons.1 h3.2).1 x hx
        have h5 := h3.1 x (List.mem_cons_of_mem _ hx)
        unfold oldB at hn ⊢
        rw [decide_eq_false_iff_not] at hn ⊢
        omega
    rw [h1, ho.cut, h2, List.nil_append]
  -- those below
  have hlow : (ls.take i).map (cutL f w) = ls.take i := by
    conv => rhs; rw [← List.map_id (ls.take i)]
    refine List.map_congr_left fun m hm => cut_all fun x hx => ?_
    have hxa : x ∈ allOf (ls.take i) := mem_all hm hx
    have hja : l[j] ∈ allOf (ls.drop (i + 1)) ++ l := List.mem_append_right _ (List.getElem_mem hj)
    have h4 := t3 _ hja x hxa
    have h5 := t2.1 x hxa
    unfold oldB at hn ⊢
    rw [decide_eq_false_iff_not] at hn ⊢
    omega
  unfold dropL
  conv => lhs; rw [e]
  rw [List.map_append, List.map_cons, hcut, hlow]
  refine trim_stop _ ?_ ?_
  · intro h
    have := congrArg List.length h
    simp at this
    omega
  · intro m hm
    obtain ⟨m', hm', rfl⟩ := List.mem_map.1 hm
    obtain ⟨n, hn', rfl⟩ := List.getElem_of_mem hm'
    rw [List.getElem_drop]
    have h7 : i + 1 + n < ls.length := by simp at hn'; omega
    have := hg (i + 1 + n) (by omega)
    rw [lev_lt h7] at this
    exact this.cut
theorem drop_gone {f w : Nat} {ls : Lv} (hg : ∀ m, Gone f w (lev ls m)) : dropL f w ls = [] := by
  unfold dropL
  refine trim_none fun m hm => ?_
  obtain ⟨m', hm', rfl⟩ := List.mem_map.1 hm
  obtain ⟨n, hn', rfl⟩ := List.getElem_of_mem hm'
  have := hg n
  rw [lev_lt hn'] at this
  exact this.cut
theorem gone_take {f w j : Nat} {l : List Sp} (h : Gone f w (l.take j)) (hj : j < l.length) (ho : oldB l[j].2 f w = true) : Gone f w (l.take (j + 1)) := by
  intro x hx
  rw [List.take_succ_eq_append_getElem hj, List.mem_append] at hx
  rcases hx with hx | hx
  · exact h x hx
  · rw [List.mem_singleton.1 hx]
    exact ho

/-- How many levels there are, up to the level i: the document's way. -/
def manyTo (f w : Nat) (ls : Lv) (i : Nat) : Nat := (trim ((ls.take i).map (cutL f w))).length
theorem many_zero (f w : Nat) (ls : Lv) : manyTo f w ls 0 = 0 := rfl
theorem many_succ {f w i : Nat} {ls : Lv} (hi : i < ls.length) : manyTo f w ls (i + 1) = if cutL f w ls[i] = [] then manyTo f w ls i else i + 1 := by
  unfold manyTo
  rw [List.take_succ_eq_append_getElem hi, List.map_append, List.map_cons, List.map_nil, trim_snoc]
  split
  · rfl
  · simp; omega
theorem many_le (f w : Nat) (ls : Lv) (i : Nat) : manyTo f w ls i ≤ i := by
  unfold manyTo
  have h1 := trim_len ((ls.take i).map (cutL f w))
  simp only [List.length_map, List.length_take] at h1
  omega
theorem many_all (f w : Nat) (ls : Lv) : (ls.map (cutL f w)).take (manyTo f w ls ls.length) = dropL f w ls := by
  unfold manyTo dropL
  rw [List.take_length]
  exact trim_take _
theorem cut_snoc {f w j : Nat} {l : List Sp} (hj : j < l.length) : cutL f w (l.take (j + 1)) = if oldB l[j].2 f w then cutL f w (l.take j) else cutL f w (l.take j) ++ [l[j]] := by
  unfold cutL
  rw [List.take_succ_eq_append_getElem hj, List.filter_append, List.filter_cons, List.filter_nil]
  cases oldB l[j].2 f w <;> simp

end Go.Proofs.Lh
