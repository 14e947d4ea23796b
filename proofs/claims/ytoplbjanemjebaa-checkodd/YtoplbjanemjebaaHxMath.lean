/- Plain mathematics of buckets that are too old: what is dropped, and what stays. -/
import Derived.Test.YtoplbjanemjebaaHiMath2
namespace Go.Proofs.Lh
open Go.Proofs.Lm (Sp Turn)

/-- Whether a tick is old. -/
def oldB (t f w : Nat) : Bool := decide (t + w ≤ f)
/-- What stays of a level. -/
def cutL (f w : Nat) (l : List Sp) : List Sp := l.filter fun x => !oldB x.2 f w
/-- Without the levels behind the last one that has a bucket. -/
def trim : Lv → Lv
  | [] => []
  | l :: ls => if l = [] ∧ trim ls = [] then [] else l :: trim ls
def dropL (f w : Nat) (L : Lv) : Lv := trim (L.map (cutL f w))

theorem cutL_nil (f w : Nat) : cutL f w [] = [] := rfl
theorem cutL_len (f w : Nat) (l : List Sp) : (cutL f w l).length ≤ l.length := List.length_filter_le _ _
theorem trim_tot : ∀ M : Lv, tot (trim M) = tot M
  | [] => rfl
  | l :: ls => by
    rw [trim]
    split
    · rename_i h
      have := trim_tot ls
      rw [h.2] at this
      have e : tot (l :: ls) = l.length + 2 * tot ls := rfl
      rw [e, h.1, ← this]
      rfl
    · rw [tot, tot, trim_tot ls]
theorem trim_all : ∀ M : Lv, allOf (trim M) = allOf M
  | [] => rfl
  | l :: ls => by
    rw [trim]
    split
    · rename_i h
      have := trim_all ls
      rw [h.2] at this
      have e : allOf (l :: ls) = allOf ls ++ l := rfl
      rw [e, h.1, ← this]
      rfl
    · rw [allOf, allOf, trim_all ls]
theorem all_cut (f w : Nat) : ∀ L : Lv, allOf (L.map (cutL f w)) = cutL f w (allOf L)
  | [] => rfl
  | l :: ls => by
    rw [List.map_cons, allOf, allOf, all_cut f w ls]
    unfold cutL
    rw [List.filter_append]
/-- Cut once more, behind a trim. -/
theorem trim_map (c : List Sp → List Sp) (hc : c [] = []) : ∀ M : Lv, trim ((trim M).map c) = trim (M.map c)
  | [] => rfl
  | l :: ls => by
    have ih := trim_map c hc ls
    rw [trim]
    split
    · rename_i h
      rw [List.map_cons, trim, h.1, hc]
      rw [h.2] at ih
      rw [if_pos ⟨rfl, by rw [← ih]; rfl⟩]
      rfl
    · rw [List.map_cons, List.map_cons, trim, trim, ih]
theorem cut_cut (f g w : Nat) (l : List Sp) : cutL g w (cutL f w l) = cutL (max f g) w l := by
  unfold cutL
  rw [List.filter_filter]
  congr 1
  funext x
  unfold oldB
  rw [← Bool.not_or, ← Bool.decide_or]
  congr 1
  rw [decide_eq_decide]
  omega
/-- Dropped by two fronts it is as dropped by the later one. -/
theorem drop_drop (f g w : Nat) (L : Lv) : dropL g w (dropL f w L) = dropL (max f g) w L := by
  unfold dropL
  rw [trim_map _ (cutL_nil g w), List.map_map]
  congr 2
  funext l
  exact cut_cut f g w l

/-- Levels without an empty one at their end stay. -/
theorem trim_full {k : Nat} (hk : 1 ≤ k) : ∀ {L : Lv} {i : Nat}, Shape k i L → trim L = L
  | [], _, _ => rfl
  | l :: ls, i, h => by
    have h1 := shape_head hk h
    have h2 : trim ls = ls := by
      cases ls with
      | nil => rfl
      | cons m ls => exact trim_full hk h.2.2
    rw [trim, h2, if_neg]
    rintro ⟨e, _⟩
    rw [e] at h1
    simp at h1
theorem cut_all {f w : Nat} {l : List Sp} (h : ∀ x ∈ l, oldB x.2 f w = false) : cutL f w l = l := by
  unfold cutL
  rw [List.filter_eq_self]
  intro x hx
  rw [h x hx]
  rfl
theorem mem_all : ∀ {L : Lv} {l : List Sp} {x : Sp}, l ∈ L → x ∈ l → x ∈ allOf L
  | m :: ls, l, x, hl, hx => by
    rw [allOf, List.mem_append]
    rcases List.mem_cons.1 hl with rfl | hl
    · exact .inr hx
    · exact .inl (mem_all hl hx)
theorem trim_nil {M : Lv} (h : trim M = []) : ∀ l ∈ M, l = [] := by
  induction M with
  | nil => intro l hl; cases hl
  | cons m ls ih =>
    rw [trim] at h
    split at h
    · rename_i h2
      intro l hl
      rcases List.mem_cons.1 hl with rfl | hl
      · exact h2.1
      · exact ih h2.2 l hl
    · cases h
theorem trim_ne {M : Lv} (h : trim M ≠ []) : ∃ l ∈ M, l ≠ [] := by
  induction M with
  | nil => exact absurd rfl h
  | cons m ls ih =>
    rw [trim] at h
    by_cases hm : m = []
    · by_cases hl : trim ls = []
      · rw [if_pos ⟨hm, hl⟩] at h
        exact absurd rfl h
      · obtain ⟨l, h1, h2⟩ := ih hl
        exact ⟨l, List.mem_cons_of_mem _ h1, h2⟩
    · exact ⟨m, List.mem_cons_self, hm⟩
/-- What stays keeps the shape. -/
theorem drop_shape {k : Nat} (hk : 1 ≤ k) (f w : Nat) : ∀ {L : Lv} {i : Nat}, Shape k i L → Turn (allOf L) → Shape k i (dropL f w L)
  | [], _, _, _ => trivial
  | l :: ls, i, hs, ht => by
    have hls : Shape k (i + 1) ls := by
      cases ls with
      | nil => trivial
      | cons m ls => exact hs.2.2
    have htt := ht
    rw [allOf] at htt
    obtain ⟨t1, t2, t3⟩ := turn_app.1 htt
    have ih := drop_shape hk f w hls t1
    have hle : l.length ≤ rm k i := by
      cases ls with
      | nil => exact hs.2
      | cons m ls => exact hs.2.1
    have h1 := shape_head hk hs
    unfold dropL at ih ⊢
    rw [List.map_cons, trim]
    by_cases hz : trim (ls.map (cutL f w)) = []
    · by_cases hc : cutL f w l = []
      · rw [if_pos ⟨hc, hz⟩]
        trivial
      · rw [if_neg (fun h => hc h.1), hz]
        exact ⟨by have := List.length_pos_iff.2 hc; omega, Nat.le_trans (cutL_len f w l) hle⟩
    · -- some bucket of a level above stays: then all of this level, which is later, stays
      obtain ⟨l', hl', hn⟩ := trim_ne hz
      obtain ⟨m, hm, rfl⟩ := List.mem_map.1 hl'
      obtain ⟨y, hy⟩ := List.exists_mem_of_ne_nil _ hn
      unfold cutL at hy
      rw [List.mem_filter] at hy
      have hya : y ∈ allOf ls := mem_all hm hy.1
      have hyo : oldB y.2 f w = false := by simpa using hy.2
      have hall : cutL f w l = l := cut_all fun x hx => by
        have h2 := t3 y hya x hx
        have h3 := t2.1 x hx
        unfold oldB at hyo ⊢
        rw [decide_eq_false_iff_not] at hyo ⊢
        omega
      rw [if_neg (fun h => hz h.2), hall]
      refine shape_cons ih h1 hle fun _ => ?_
      cases ls with
      | nil => exact absurd rfl hz
      | cons m ls => exact hs.1
theorem turn_sub {xs ys : List Sp} (h : Turn ys) (hs : xs.Sublist ys) : Turn xs := ⟨fun x hx => h.1 x (hs.subset hx), h.2.sublist hs⟩
theorem drop_turn (f w : Nat) {L : Lv} (h : Turn (allOf L)) : Turn (allOf (dropL f w L)) := by
  unfold dropL
  rw [trim_all, all_cut]
  exact turn_sub h List.filter_sublist
theorem drop_flat (f w : Nat) {L : Lv} (h : flat L) : flat (dropL f w L) := by
  cases L with
  | nil => trivial
  | cons l ls =>
    unfold dropL
    rw [List.map_cons, trim]
    split
    · trivial
    · intro x hx
      exact h x (List.mem_filter.1 hx).1
theorem tot_cut (f w : Nat) : ∀ L : Lv, tot (L.map (cutL f w)) ≤ tot L
  | [] => Nat.le_refl _
  | l :: ls => by
    have h1 := cutL_len f w l
    have h2 := tot_cut f w ls
    rw [List.map_cons, tot, tot]
    omega
theorem drop_tot (f w : Nat) (L : Lv) : tot (dropL f w L) ≤ tot L := by
  unfold dropL
  rw [trim_tot]
  exact tot_cut f w L
/-- It is a histogram that was made. -/
theorem Made.drop {k : Nat} {L : Lv} (h : Made k L) (f w : Nat) : Made k (dropL f w L) :=
  ⟨h.k2, h.k1, ⟨drop_shape (by have := h.k2; omega) f w h.ok.shape h.ok.turn, drop_turn f w h.ok.turn, drop_flat f w h.ok.flat⟩, Nat.le_trans (drop_tot f w L) h.small⟩
/-- A larger window, an earlier front: as much, or more. -/
theorem cut_later {f g v w : Nat} (hf : g ≤ f) (hw : v ≤ w) (l : List Sp) : (cutL f v l).length ≤ (cutL g w l).length := by
  induction l with
  | nil => exact Nat.le_refl _
  | cons x l ih =>
    unfold cutL at ih ⊢
    rw [List.filter_cons, List.filter_cons]
    cases h1 : oldB x.2 f v with
    | true =>
      cases h2 : oldB x.2 g w with
      | true => simpa using ih
      | false => simp; omega
    | false =>
      have h2 : oldB x.2 g w = false := by
        unfold oldB at h1 ⊢
        rw [decide_eq_false_iff_not] at h1 ⊢
        omega
      rw [h2]
      simpa using ih
theorem drop_later {f g v w : Nat} (hf : g ≤ f) (hw : v ≤ w) (L : Lv) : tot (dropL f v L) ≤ tot (dropL g w L) := by
  unfold dropL
  rw [trim_tot, trim_tot]
  induction L with
  | nil => exact Nat.le_refl _
  | cons l ls ih =>
    have := cut_later hf hw l
    rw [List.map_cons, List.map_cons, tot, tot]
    omega
/-- Nothing is old: all stays. -/
theorem drop_none {k : Nat} (hk : 1 ≤ k) {L : Lv} {f w : Nat} (hs : Shape k 0 L) (h : f < w) : dropL f w L = L := by
  unfold dropL
  have : L.map (cutL f w) = L := by
    conv => rhs; rw [← List.map_id L]
    refine List.map_congr_left fun l _ => cut_all fun x _ => ?_
    unfold oldB
    rw [decide_eq_false_iff_not]
    omega
  rw [this]
  exact trim_full hk hs
/-- The old ones of buckets in turn are the first ones. -/
def olds (f w : Nat) (l : List Sp) : Nat := l.length - (cutL f w l).length
theorem cut_drop (f w : Nat) : ∀ {l : List Sp}, Turn l → cutL f w l = l.drop (olds f w l) ∧ ∀ j (hj : j < l.length), oldB l[j].2 f w = decide (j < olds f w l)
  | [], _ => ⟨rfl, fun j hj => absurd hj (by simp)⟩
  | x :: l, h => by
    have hl : Turn l := turn_sub h (List.sublist_cons_self x l)
    obtain ⟨h1, h2⟩ := cut_drop f w hl
    have hle := cutL_len f w l
    cases hx : oldB x.2 f w with
    | true =>
      have e : cutL f w (x :: l) = cutL f w l := by unfold cutL; rw [List.filter_cons, hx]; rfl
      have eo : olds f w (x :: l) = olds f w l + 1 := by unfold olds; rw [e, List.length_cons]; omega
      rw [e, eo]
      refine ⟨by rw [List.drop_succ_cons]; exact h1, fun j hj => ?_⟩
      cases j with
      | zero => simpa using hx
      | succ j =>
        have := h2 j (by simpa using hj)
        simp only [List.getElem_cons_succ]
        rw [this, decide_eq_decide]
        omega
    | false =>
      have hall : ∀ y ∈ x :: l, oldB y.2 f w = false := by
        intro y hy
        rcases List.mem_cons.1 hy with rfl | hy
        · exact hx
        · have h3 := (List.pairwise_cons.1 h.2).1 y hy
          have h4 := h.1 y (List.mem_cons_of_mem _ hy)
          unfold oldB at hx ⊢
          rw [decide_eq_false_iff_not] at hx ⊢
          omega
      have e : cutL f w (x :: l) = x :: l := cut_all hall
      have eo : olds f w (x :: l) = 0 := by unfold olds; rw [e]; omega
      rw [e, eo]
      refine ⟨rfl, fun j hj => ?_⟩
      rw [hall _ (List.getElem_mem hj)]
      simp

end Go.Proofs.Lh
