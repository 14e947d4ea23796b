/- More plain mathematics of histograms: one level of them, how many there are, what Add answers, round by round. · Plain mathematics of buckets that are too old: what is dropped, and what stays. · More plain mathematics of what is dropped: level by level, from the last one, and from the first one. · Plain mathematics of a histogram's shape, level by level. -/
import Derived.Test.YtienfdnlekfmmaaJ02
section
/- More plain mathematics of histograms: one level of them, how many there are, what Add answers, round by round. -/
namespace Go.Proofs.Lh
open Go.Proofs.Lm (Sp el two pairs wentN stayN leftN went stay Turn)

/-- The level i; behind the last one it is empty. -/
def lev (ls : Lv) (i : Nat) : List Sp := ls[i]?.getD []
theorem lev_lt {ls : Lv} {i : Nat} (h : i < ls.length) : lev ls i = ls[i] := by simp [lev, List.getElem?_eq_getElem h]
theorem lev_ge {ls : Lv} {i : Nat} (h : ls.length ≤ i) : lev ls i = [] := by simp [lev, List.getElem?_eq_none h]
theorem drop_lev {ls : Lv} {i : Nat} (h : i < ls.length) : ls.drop i = lev ls i :: ls.drop (i + 1) := by rw [lev_lt h]; exact List.drop_eq_getElem_cons h

theorem few_lev {k : Nat} : ∀ {ls : Lv} {i : Nat} (j : Nat), Few k i ls → (lev ls j).length ≤ rm k (i + j)
  | [], _, _, _ => by simp [lev]
  | l :: ls, i, 0, h => h.1
  | l :: ls, i, j + 1, h => by
    have := few_lev (ls := ls) j h.2
    rw [show i + 1 + j = i + (j + 1) by omega] at this
    exact this
theorem few_drop {k : Nat} : ∀ {ls : Lv} {i : Nat} (j : Nat), Few k i ls → Few k (i + j) (ls.drop j)
  | [], _, _, _ => by simp [Few]
  | _ :: _, _, 0, h => h
  | l :: ls, i, j + 1, h => by
    have := few_drop (ls := ls) j h.2
    rw [show i + 1 + j = i + (j + 1) by omega] at this
    exact this
theorem rm_le (k i : Nat) : rm k i ≤ k + 2 := by unfold rm; split <;> omega

/-- One step of what comes: whatever the level is. -/
theorem addL_step (k i : Nat) (ls : Lv) (come : List Sp) (h : come ≠ [] ∨ i < ls.length) : addL k i (ls.drop i) come = stayL (lev ls i ++ come) (rm k i) :: addL k (i + 1) (ls.drop (i + 1)) (wentL (lev ls i ++ come) (rm k i)) := by
  rcases Nat.lt_or_ge i ls.length with hi | hi
  · rw [drop_lev hi, addL]
  · rw [List.drop_of_length_le hi, List.drop_of_length_le (by omega), lev_ge hi, List.nil_append]
    have hc : come ≠ [] := h.resolve_right (by omega)
    rw [addL, addL, newL_ne k i hc]

/-- So many levels there may be: each has a unit of its size. -/
theorem shape_many {k : Nat} (hk : 1 ≤ k) : ∀ {ls : Lv} {i : Nat}, Shape k i ls → ls ≠ [] → 2 ^ (ls.length - 1) ≤ tot ls
  | [], _, _, h => absurd rfl h
  | [l], _, h, _ => by have := h.1; simp [tot]; omega
  | l :: m :: ls, i, h, _ => by
    have := shape_many hk h.2.2 (by simp)
    rw [tot, List.length_cons, show (m :: ls).length + 1 - 1 = (m :: ls).length - 1 + 1 by simp, Nat.pow_succ]
    omega
theorem few_levels {k : Nat} (hk : 1 ≤ k) {ls : Lv} {i : Nat} (h : Shape k i ls) (ht : tot ls ≤ 4503599627370496) : ls.length ≤ 53 := by
  by_cases hn : ls = []
  · subst hn; simp
  · have := shape_many hk h hn
    rcases Nat.lt_or_ge 53 ls.length with h2 | h2
    · have h3 : 2 ^ 53 ≤ 2 ^ (ls.length - 1) := Nat.pow_le_pow_right (by omega) (by omega)
      omega
    · exact h2

/-- What Add answers: an error's number, or 0. -/
def may (k : Int) : Bool := decide (2 ≤ k ∧ k ≤ 1024)
def code (ls : Lv) (t n : Nat) : Nat :=
  if n = 0 then 1 else if 9223372036854775807 < t ∨ t < (lastOf ls).getD 0 then 6 else if 4503599627370496 < n ∨ 4503599627370496 < n + tot ls then 5 else 0

/-- A histogram that was made: its shape, its turn, its units. -/
structure Made (k : Nat) (ls : Lv) : Prop where
  k2 : 2 ≤ k
  k1 : k ≤ 1024
  ok : Ok k ls
  small : tot ls ≤ 4503599627370496
theorem Made.nil {k : Nat} (h : 2 ≤ k) (h1 : k ≤ 1024) : Made k [] := ⟨h, h1, Ok.nil k, by simp [tot]⟩
theorem Made.len {k : Nat} {ls : Lv} (h : Made k ls) : ls.length ≤ 53 := few_levels (by have := h.k2; omega) h.ok.shape h.small
theorem Made.few {k : Nat} {ls : Lv} (h : Made k ls) : Few k 0 ls := h.ok.few
theorem Made.lev {k : Nat} {ls : Lv} (h : Made k ls) (i : Nat) : (lev ls i).length ≤ 1026 := by
  have h1 := few_lev i h.few
  have h2 := rm_le k (0 + i)
  have := h.k1
  omega
theorem Made.add {k : Nat} {ls : Lv} (h : Made k ls) {t n : Nat} (hc : code ls t n = 0) : Made k (addW k ls t n) := by
  unfold code at hc
  split at hc
  · omega
  split at hc
  · omega
  split at hc
  · omega
  refine ⟨h.k2, h.k1, h.ok.add (by have := h.k2; omega) t n ?_, ?_⟩
  · intro last hl
    rename_i h2 _
    rw [hl] at h2
    simp at h2
    omega
  · rw [addW_tot]
    omega

/-- A level's units and those behind it. -/
theorem tot_lev : ∀ (ls : Lv) (i : Nat), totFrom 0 (ls.take i) + totFrom i (ls.drop i) = tot ls := by
  intro ls i
  rcases Nat.lt_or_ge ls.length i with h | h
  · rw [List.take_of_length_le (by omega), List.drop_of_length_le (by omega), totFrom]
    exact tot_eq ls
  · have := totFrom_app (ls.take i) (ls.drop i) 0
    rw [List.take_append_drop, List.length_take, Nat.min_eq_left h, Nat.zero_add] at this
    rw [← this]
    exact tot_eq ls
theorem totFrom_take {ls : Lv} {i : Nat} (h : i < ls.length) : totFrom 0 (ls.take (i + 1)) = totFrom 0 (ls.take i) + ls[i].length * 2 ^ i := by
  rw [List.take_succ_eq_append_getElem h, totFrom_app, List.length_take, Nat.min_eq_left (by omega), Nat.zero_add]
  simp [totFrom]
theorem totFrom_le (ls : Lv) (i : Nat) : totFrom 0 (ls.take i) ≤ tot ls := by have := tot_lev ls i; omega

/-! ### Round by round: what stands there at round i -/

/-- At round i so much comes to the level i, and R is what all that makes. -/
structure At (k : Nat) (ls : Lv) (t : Nat) (R : Lv) (i : Nat) (come : List Sp) (many : Nat) : Prop where
  rest : R.drop i = addL k i (ls.drop i) (full come t many)
  few : come.length ≤ 2000
  most : many ≤ 4503599627370496
theorem At.start (k : Nat) (ls : Lv) (t n : Nat) (hn : n ≤ 4503599627370496) : At k ls t (addW k ls t n) 0 [] n := ⟨by simp [addW, full], by simp, hn⟩
theorem full_nil {come : List Sp} {t many : Nat} : full come t many = [] ↔ come.length = 0 ∧ many = 0 := by simp [full]

theorem full_app (l come : List Sp) (t many : Nat) : l ++ full come t many = full (l ++ come) t many := by simp [full]
/-- The round: what stays is the level i of R, and what goes comes to the next. -/
theorem At.next {k : Nat} {ls R : Lv} {t i many : Nat} {come : List Sp} (h : At k ls t R i come many) (hl : (lev ls i).length ≤ 1026) (hgo : full come t many ≠ [] ∨ i < ls.length) :
    i < R.length ∧ lev R i = stay (lev ls i ++ come) t many (rm k i) ∧ At k ls t R (i + 1) (went (lev ls i ++ come) t many (rm k i)) (leftN (lev ls i ++ come).length many (rm k i)) := by
  have e := h.rest
  rw [addL_step k i ls _ hgo, full_app, ← stay_full _ _ _ _ (rm_pos k i), ← went_full_list _ _ _ _ (rm_pos k i)] at e
  have hi : i < R.length := by
    rcases Nat.lt_or_ge i R.length with hi | hi
    · exact hi
    · rw [List.drop_of_length_le hi] at e
      cases e
  rw [drop_lev hi] at e
  injection e with e1 e2
  refine ⟨hi, e1, ⟨e2, ?_, ?_⟩⟩
  · rw [Lm.went_len]
    have h1 := Lm.wentN_half (lev ls i ++ come).length many (rm k i)
    have h2 := h.few
    rw [List.length_append] at h1 ⊢
    omega
  · have h1 := Lm.leftN_le (lev ls i ++ come).length many (rm k i) (rm_pos k i)
    have h2 := h.most
    omega
/-- Nothing comes any more: the levels from here on are as they were. -/
theorem At.done {k : Nat} {ls R : Lv} {t i many : Nat} {come : List Sp} (h : At k ls t R i come many) (hf : Few k 0 ls) (hz : full come t many = []) : R.drop i = ls.drop i := by
  rw [h.rest, hz]
  have := few_drop i hf
  rw [Nat.zero_add] at this
  exact addL_none k _ i this
theorem At.over {k : Nat} {ls R : Lv} {t i many : Nat} {come : List Sp} (h : At k ls t R i come many) (hi : ls.length ≤ i) (hz : full come t many = []) : R.length ≤ i := by
  have e := h.rest
  rw [hz, List.drop_of_length_le hi, addL, newL_nil] at e
  have := congrArg List.length e
  simp at this
  omega

end Go.Proofs.Lh
end
section
/- Plain mathematics of buckets that are too old: what is dropped, and what stays. -/
namespace Go.Proofs.Lh
open Go.Proofs.Lm (Sp Turn)

/-- Whether a tick is old. -/
def oldB (t f w : Nat) : Bool := decide (t + w ≤ f)
/-- What stays of a level. -/
def cutL (f w : Nat) (l : List Sp) : List Sp := l.filter fun x => !oldB x.2 f w
/-- Without the levels behind the last one that has a bucket. -/
def trim : Lv → Lv
  | [] => []
  | l :: ls => if l = [] ∧ trim ls = [] then [] else l :: trim ls
def dropL (f w : Nat) (L : Lv) : Lv := trim (L.map (cutL f w))

theorem cutL_nil (f w : Nat) : cutL f w [] = [] := rfl
theorem cutL_len (f w : Nat) (l : List Sp) : (cutL f w l).length ≤ l.length := List.length_filter_le _ _
theorem trim_tot : ∀ M : Lv, tot (trim M) = tot M
  | [] => rfl
  | l :: ls => by
    rw [trim]
    split
    · rename_i h
      have := trim_tot ls
      rw [h.2] at this
      have e : tot (l :: ls) = l.length + 2 * tot ls := rfl
      rw [e, h.1, ← this]
      rfl
    · rw [tot, tot, trim_tot ls]
theorem trim_all : ∀ M : Lv, allOf (trim M) = allOf M
  | [] => rfl
  | l :: ls => by
    rw [trim]
    split
    · rename_i h
      have := trim_all ls
      rw [h.2] at this
      have e : allOf (l :: ls) = allOf ls ++ l := rfl
      rw [e, h.1, ← this]
      rfl
    · rw [allOf, allOf, trim_all ls]
theorem all_cut (f w : Nat) : ∀ L : Lv, allOf (L.map (cutL f w)) = cutL f w (allOf L)
  | [] => rfl
  | l :: ls => by
    rw [List.map_cons, allOf, allOf, all_cut f w ls]
    unfold cutL
    rw [List.filter_append]
/-- Cut once more, behind a trim. -/
theorem trim_map (c : List Sp → List Sp) (hc : c [] = []) : ∀ M : Lv, trim ((trim M).map c) = trim (M.map c)
  | [] => rfl
  | l :: ls => by
    have ih := trim_map c hc ls
    rw [trim]
    split
    · rename_i h
      rw [List.map_cons, trim, h.1, hc]
      rw [h.2] at ih
      rw [if_pos ⟨rfl, by rw [← ih]; rfl⟩]
      rfl
    · rw [List.map_cons, List.map_cons, trim, trim, ih]
theorem cut_cut (f g w : Nat) (l : List Sp) : cutL g w (cutL f w l) = cutL (max f g) w l := by
  unfold cutL
  rw [List.filter_filter]
  congr 1
  funext x
  unfold oldB
  rw [← Bool.not_or, ← Bool.decide_or]
  congr 1
  rw [decide_eq_decide]
  omega
/-- Dropped by two fronts it is as dropped by the later one. -/
theorem drop_drop (f g w : Nat) (L : Lv) : dropL g w (dropL f w L) = dropL (max f g) w L := by
  unfold dropL
  rw [trim_map _ (cutL_nil g w), List.map_map]
  congr 2
  funext l
  exact cut_cut f g w l

/-- Levels without an empty one at their end stay. -/
theorem trim_full {k : Nat} (hk : 1 ≤ k) : ∀ {L : Lv} {i : Nat}, Shape k i L → trim L = L
  | [], _, _ => rfl
  | l :: ls, i, h => by
    have h1 := shape_head hk h
    have h2 : trim ls = ls := by
      cases ls with
      | nil => rfl
      | cons m ls => exact trim_full hk h.2.2
    rw [trim, h2, if_neg]
    rintro ⟨e, _⟩
    rw [e] at h1
    simp at h1
theorem cut_all {f w : Nat} {l : List Sp} (h : ∀ x ∈ l, oldB x.2 f w = false) : cutL f w l = l := by
  unfold cutL
  rw [List.filter_eq_self]
  intro x hx
  rw [h x hx]
  rfl
theorem mem_all : ∀ {L : Lv} {l : List Sp} {x : Sp}, l ∈ L → x ∈ l → x ∈ allOf L
  | m :: ls, l, x, hl, hx => by
    rw [allOf, List.mem_append]
    rcases List.mem_cons.1 hl with rfl | hl
    · exact .inr hx
    · exact .inl (mem_all hl hx)
theorem trim_nil {M : Lv} (h : trim M = []) : ∀ l ∈ M, l = [] := by
  induction M with
  | nil => intro l hl; cases hl
  | cons m ls ih =>
    rw [trim] at h
    split at h
    · rename_i h2
      intro l hl
      rcases List.mem_cons.1 hl with rfl | hl
      · exact h2.1
      · exact ih h2.2 l hl
    · cases h
theorem trim_ne {M : Lv} (h : trim M ≠ []) : ∃ l ∈ M, l ≠ [] := by
  induction M with
  | nil => exact absurd rfl h
  | cons m ls ih =>
    rw [trim] at h
    by_cases hm : m = []
    · by_cases hl : trim ls = []
      · rw [if_pos ⟨hm, hl⟩] at h
        exact absurd rfl h
      · obtain ⟨l, h1, h2⟩ := ih hl
        exact ⟨l, List.mem_cons_of_mem _ h1, h2⟩
    · exact ⟨m, List.mem_cons_self, hm⟩
/-- What stays keeps the shape. -/
theorem drop_shape {k : Nat} (hk : 1 ≤ k) (f w : Nat) : ∀ {L : Lv} {i : Nat}, Shape k i L → Turn (allOf L) → Shape k i (dropL f w L)
  | [], _, _, _ => trivial
  | l :: ls, i, hs, ht => by
    have hls : Shape k (i + 1) ls := by
      cases ls with
      | nil => trivial
      | cons m ls => exact hs.2.2
    have htt := ht
    rw [allOf] at htt
    obtain ⟨t1, t2, t3⟩ := turn_app.1 htt
    have ih := drop_shape hk f w hls t1
    have hle : l.length ≤ rm k i := by
      cases ls with
      | nil => exact hs.2
      | cons m ls => exact hs.2.1
    have h1 := shape_head hk hs
    unfold dropL at ih ⊢
    rw [List.map_cons, trim]
    by_cases hz : trim (ls.map (cutL f w)) = []
    · by_cases hc : cutL f w l = []
      · rw [if_pos ⟨hc, hz⟩]
        trivial
      · rw [if_neg (fun h => hc h.1), hz]
        exact ⟨by have := List.length_pos_iff.2 hc; omega, Nat.le_trans (cutL_len f w l) hle⟩
    · -- some bucket of a level above stays: then all of this level, which is later, stays
      obtain ⟨l', hl', hn⟩ := trim_ne hz
      obtain ⟨m, hm, rfl⟩ := List.mem_map.1 hl'
      obtain ⟨y, hy⟩ := List.exists_mem_of_ne_nil _ hn
      unfold cutL at hy
      rw [List.mem_filter] at hy
      have hya : y ∈ allOf ls := mem_all hm hy.1
      have hyo : oldB y.2 f w = false := by simpa using hy.2
      have hall : cutL f w l = l := cut_all fun x hx => by
        have h2 := t3 y hya x hx
        have h3 := t2.1 x hx
        unfold oldB at hyo ⊢
        rw [decide_eq_false_iff_not] at hyo ⊢
        omega
      rw [if_neg (fun h => hz h.2), hall]
      refine shape_cons ih h1 hle fun _ => ?_
      cases ls with
      | nil => exact absurd rfl hz
      | cons m ls => exact hs.1
theorem turn_sub {xs ys : List Sp} (h : Turn ys) (hs : xs.Sublist ys) : Turn xs := ⟨fun x hx => h.1 x (hs.subset hx), h.2.sublist hs⟩
theorem drop_turn (f w : Nat) {L : Lv} (h : Turn (allOf L)) : Turn (allOf (dropL f w L)) := by
  unfold dropL
  rw [trim_all, all_cut]
  exact turn_sub h List.filter_sublist
theorem drop_flat (f w : Nat) {L : Lv} (h : flat L) : flat (dropL f w L) := by
  cases L with
  | nil => trivial
  | cons l ls =>
    unfold dropL
    rw [List.map_cons, trim]
    split
    · trivial
    · intro x hx
      exact h x (List.mem_filter.1 hx).1
theorem tot_cut (f w : Nat) : ∀ L : Lv, tot (L.map (cutL f w)) ≤ tot L
  | [] => Nat.le_refl _
  | l :: ls => by
    have h1 := cutL_len f w l
    have h2 := tot_cut f w ls
    rw [List.map_cons, tot, tot]
    omega
theorem drop_tot (f w : Nat) (L : Lv) : tot (dropL f w L) ≤ tot L := by
  unfold dropL
  rw [trim_tot]
  exact tot_cut f w L
/-- It is a histogram that was made. -/
theorem Made.drop {k : Nat} {L : Lv} (h : Made k L) (f w : Nat) : Made k (dropL f w L) :=
  ⟨h.k2, h.k1, ⟨drop_shape (by have := h.k2; omega) f w h.ok.shape h.ok.turn, drop_turn f w h.ok.turn, drop_flat f w h.ok.flat⟩, Nat.le_trans (drop_tot f w L) h.small⟩
/-- A larger window, an earlier front: as much, or more. -/
theorem cut_later {f g v w : Nat} (hf : g ≤ f) (hw : v ≤ w) (l : List Sp) : (cutL f v l).length ≤ (cutL g w l).length := by
  induction l with
  | nil => exact Nat.le_refl _
  | cons x l ih =>
    unfold cutL at ih ⊢
    rw [List.filter_cons, List.filter_cons]
    cases h1 : oldB x.2 f v with
    | true =>
      cases h2 : oldB x.2 g w with
      | true => simpa using ih
      | false => simp; omega
    | false =>
      have h2 : oldB x.2 g w = false := by
        unfold oldB at h1 ⊢
        rw [decide_eq_false_iff_not] at h1 ⊢
        omega
      rw [h2]
      simpa using ih
theorem drop_later {f g v w : Nat} (hf : g ≤ f) (hw : v ≤ w) (L : Lv) : tot (dropL f v L) ≤ tot (dropL g w L) := by
  unfold dropL
  rw [trim_tot, trim_tot]
  induction L with
  | nil => exact Nat.le_refl _
  | cons l ls ih =>
    have := cut_later hf hw l
    rw [List.map_cons, List.map_cons, tot, tot]
    omega
/-- Nothing is old: all stays. -/
theorem drop_none {k : Nat} (hk : 1 ≤ k) {L : Lv} {f w : Nat} (hs : Shape k 0 L) (h : f < w) : dropL f w L = L := by
  unfold dropL
  have : L.map (cutL f w) = L := by
    conv => rhs; rw [← List.map_id L]
    refine List.map_congr_left fun l _ => cut_all fun x _ => ?_
    unfold oldB
    rw [decide_eq_false_iff_not]
    omega
  rw [this]
  exact trim_full hk hs
/-- The old ones of buckets in turn are the first ones. -/
def olds (f w : Nat) (l : List Sp) : Nat := l.length - (cutL f w l).length
theorem cut_drop (f w : Nat) : ∀ {l : List Sp}, Turn l → cutL f w l = l.drop (olds f w l) ∧ ∀ j (hj : j < l.length), oldB l[j].2 f w = decide (j < olds f w l)
  | [], _ => ⟨rfl, fun j hj => absurd hj (by simp)⟩
  | x :: l, h => by
    have hl : Turn l := turn_sub h (List.sublist_cons_self x l)
    obtain ⟨h1, h2⟩ := cut_drop f w hl
    have hle := cutL_len f w l
    cases hx : oldB x.2 f w with
    | true =>
      have e : cutL f w (x :: l) = cutL f w l := by unfold cutL; rw [List.filter_cons, hx]; rfl
      have eo : olds f w (x :: l) = olds f w l + 1 := by unfold olds; rw [e, List.length_cons]; omega
      rw [e, eo]
      refine ⟨by rw [List.drop_succ_cons]; exact h1, fun j hj => ?_⟩
      cases j with
      | zero => simpa using hx
      | succ j =>
        have := h2 j (by simpa using hj)
        simp only [List.getElem_cons_succ]
        rw [this, decide_eq_decide]
        omega
    | false =>
      have hall : ∀ y ∈ x :: l, oldB y.2 f w = false := by
        intro y hy
        rcases List.mem_cons.1 hy with rfl | hy
        · exact hx
        · have h3 := (List.pairwise_cons.1 h.2).1 y hy
          have h4 := h.1 y (List.mem_cons_of_mem _ hy)
          unfold oldB at hx ⊢
          rw [decide_eq_false_iff_not] at hx ⊢
          omega
      have e : cutL f w (x :: l) = x :: l := cut_all hall
      have eo : olds f w (x :: l) = 0 := by unfold olds; rw [e]; omega
      rw [e, eo]
      refine ⟨rfl, fun j hj => ?_⟩
      rw [hall _ (List.getElem_mem hj)]
      simp

end Go.Proofs.Lh
end
section
/- More plain mathematics of what is dropped: level by level, from the last one, and from the first one. -/
namespace Go.Proofs.Lh
open Go.Proofs.Lm (Sp Turn)

theorem trim_none : ∀ {M : Lv}, (∀ l ∈ M, l = []) → trim M = []
  | [], _ => rfl
  | l :: ls, h => by
    rw [trim, if_pos ⟨h l List.mem_cons_self, trim_none fun m hm => h m (List.mem_cons_of_mem _ hm)⟩]
theorem trim_stop : ∀ (A : Lv) {x : List Sp} {B : Lv}, x ≠ [] → (∀ l ∈ B, l = []) → trim (A ++ x :: B) = A ++ [x]
  | [], x, B, hx, hB => by
    rw [List.nil_append, List.nil_append, trim, trim_none hB, if_neg fun h => hx h.1]
  | a :: A, x, B, hx, hB => by
    rw [List.cons_append, trim, trim_stop A hx hB, if_neg (fun h => by simp at h), List.cons_append]
theorem trim_snoc (M : Lv) (x : List Sp) : trim (M ++ [x]) = if x = [] then trim M else M ++ [x] := by
  by_cases hx : x = []
  · rw [if_pos hx, hx]
    induction M with
    | nil => rfl
    | cons a A ih => rw [List.cons_append, trim, trim, ih]
  · rw [if_neg hx]
    exact trim_stop M hx fun l hl => by cases hl
theorem trim_len : ∀ M : Lv, (trim M).length ≤ M.length
  | [] => Nat.le_refl _
  | l :: ls => by
    have := trim_len ls
    rw [trim]
    split
    · simp
    · simp; omega
theorem trim_take : ∀ M : Lv, M.take (trim M).length = trim M
  | [] => rfl
  | l :: ls => by
    rw [trim]
    split
    · rfl
    · rw [List.length_cons, List.take_succ_cons, trim_take ls]

/-- All of a level is old. -/
def Gone (f w : Nat) (l : List Sp) : Prop := ∀ x ∈ l, oldB x.2 f w = true
theorem Gone.cut {f w : Nat} {l : List Sp} (h : Gone f w l) : cutL f w l = [] := by
  unfold cutL
  rw [List.filter_eq_nil_iff]
  intro x hx
  rw [h x hx]
  simp
/-- From the last level on: all levels from i + 1 on are old, the first j of the level i, too, and the next one isn't. -/
theorem drop_stop {f w i j : Nat} {ls : Lv} (ht : Turn (allOf ls)) (hi : i < ls.length) (hg : ∀ m, i < m → Gone f w (lev ls m)) (hj : j < (lev ls i).length) (ho : Gone f w ((lev ls i).take j)) (hn : oldB ((lev ls i)[j]).2 f w = false) :
    dropL f w ls = ls.take i ++ [(lev ls i).drop j] := by
  have e : ls = ls.take i ++ lev ls i :: ls.drop (i + 1) := by
    rw [← drop_lev hi, List.take_append_drop]
  have hle := lev_lt hi
  have ht2 := ht
  rw [e] at ht2
  have hall : ∀ (A : Lv) (x : List Sp) (B : Lv), allOf (A ++ x :: B) = allOf B ++ x ++ allOf A := by
    intro A x B
    induction A with
    | nil => simp [allOf]
    | cons a A ih => rw [List.cons_append, allOf, ih, allOf]; simp
  rw [hall] at ht2
  obtain ⟨t1, t2, t3⟩ := turn_app.1 ht2
  obtain ⟨t4, t5, t6⟩ := turn_app.1 t1
  generalize hl : lev ls i = l at *
  have hsp : l = l.take j ++ l[j] :: l.drop (j + 1) := by
    rw [← List.drop_eq_getElem_cons hj, List.take_append_drop]
  -- the level i
  have hcut : cutL f w l = l.drop j := by
    have h1 : cutL f w l = cutL f w (l.take j) ++ cutL f w (l.drop j) := by
      unfold cutL
      rw [← List.filter_append, List.take_append_drop]
    have h2 : cutL f w (l.drop j) = l.drop j := by
      refine cut_all fun x hx => ?_
      rw [List.drop_eq_getElem_cons hj] at hx
      rcases List.mem_cons.1 hx with rfl | hx
      · exact hn
      · have h3 : Turn (l[j] :: l.drop (j + 1)) := by
          rw [← List.drop_eq_getElem_cons hj]
          exact turn_sub t5 (List.drop_sublist _ _)
        have h4 := (List.pairwise_cons.1 h3.2).1 x hx
        have h5 := h3.1 x (List.mem_cons_of_mem _ hx)
        unfold oldB at hn ⊢
        rw [decide_eq_false_iff_not] at hn ⊢
        omega
    rw [h1, ho.cut, h2, List.nil_append]
  -- those below
  have hlow : (ls.take i).map (cutL f w) = ls.take i := by
    conv => rhs; rw [← List.map_id (ls.take i)]
    refine List.map_congr_left fun m hm => cut_all fun x hx => ?_
    have hxa : x ∈ allOf (ls.take i) := mem_all hm hx
    have hja : l[j] ∈ allOf (ls.drop (i + 1)) ++ l := List.mem_append_right _ (List.getElem_mem hj)
    have h4 := t3 _ hja x hxa
    have h5 := t2.1 x hxa
    unfold oldB at hn ⊢
    rw [decide_eq_false_iff_not] at hn ⊢
    omega
  unfold dropL
  conv => lhs; rw [e]
  rw [List.map_append, List.map_cons, hcut, hlow]
  refine trim_stop _ ?_ ?_
  · intro h
    have := congrArg List.length h
    simp at this
    omega
  · intro m hm
    obtain ⟨m', hm', rfl⟩ := List.mem_map.1 hm
    obtain ⟨n, hn', rfl⟩ := List.getElem_of_mem hm'
    rw [List.getElem_drop]
    have h7 : i + 1 + n < ls.length := by simp at hn'; omega
    have := hg (i + 1 + n) (by omega)
    rw [lev_lt h7] at this
    exact this.cut
theorem drop_gone {f w : Nat} {ls : Lv} (hg : ∀ m, Gone f w (lev ls m)) : dropL f w ls = [] := by
  unfold dropL
  refine trim_none fun m hm => ?_
  obtain ⟨m', hm', rfl⟩ := List.mem_map.1 hm
  obtain ⟨n, hn', rfl⟩ := List.getElem_of_mem hm'
  have := hg n
  rw [lev_lt hn'] at this
  exact this.cut
theorem gone_take {f w j : Nat} {l : List Sp} (h : Gone f w (l.take j)) (hj : j < l.length) (ho : oldB l[j].2 f w = true) : Gone f w (l.take (j + 1)) := by
  intro x hx
  rw [List.take_succ_eq_append_getElem hj, List.mem_append] at hx
  rcases hx with hx | hx
  · exact h x hx
  · rw [List.mem_singleton.1 hx]
    exact ho

/-- How many levels there are, up to the level i: the document's way. -/
def manyTo (f w : Nat) (ls : Lv) (i : Nat) : Nat := (trim ((ls.take i).map (cutL f w))).length
theorem many_zero (f w : Nat) (ls : Lv) : manyTo f w ls 0 = 0 := rfl
theorem many_succ {f w i : Nat} {ls : Lv} (hi : i < ls.length) : manyTo f w ls (i + 1) = if cutL f w ls[i] = [] then manyTo f w ls i else i + 1 := by
  unfold manyTo
  rw [List.take_succ_eq_append_getElem hi, List.map_append, List.map_cons, List.map_nil, trim_snoc]
  split
  · rfl
  · simp; omega
theorem many_le (f w : Nat) (ls : Lv) (i : Nat) : manyTo f w ls i ≤ i := by
  unfold manyTo
  have h1 := trim_len ((ls.take i).map (cutL f w))
  simp only [List.length_map, List.length_take] at h1
  omega
theorem many_all (f w : Nat) (ls : Lv) : (ls.map (cutL f w)).take (manyTo f w ls ls.length) = dropL f w ls := by
  unfold manyTo dropL
  rw [List.take_length]
  exact trim_take _
theorem cut_snoc {f w j : Nat} {l : List Sp} (hj : j < l.length) : cutL f w (l.take (j + 1)) = if oldB l[j].2 f w then cutL f w (l.take j) else cutL f w (l.take j) ++ [l[j]] := by
  unfold cutL
  rw [List.take_succ_eq_append_getElem hj, List.filter_append, List.filter_cons, List.filter_nil]
  cases oldB l[j].2 f w <;> simp

end Go.Proofs.Lh
end
section
/- Plain mathematics of a histogram's shape, level by level. -/
namespace Go.Proofs.Lh
open Go.Proofs.Lm (Sp Turn)
theorem shape_at {k : Nat} (hk : 1 ≤ k) : ∀ {ls : Lv} {i : Nat} (j : Nat), Shape k i ls → j < ls.length → 1 ≤ (lev ls j).length ∧ (lev ls j).length ≤ rm k (i + j) ∧ (j + 1 ≠ ls.length → rm k (i + j) - 1 ≤ (lev ls j).length)
  | [], _, _, _, h => absurd h (by simp)
  | [l], i, 0, h, _ => ⟨h.1, h.2, fun e => absurd rfl e⟩
  | [l], i, j + 1, _, hj => absurd hj (by simp)
  | l :: m :: ls, i, 0, h, _ => ⟨by have := rm_two k i hk; have := h.1; show 1 ≤ l.length; omega, h.2.1, fun _ => h.1⟩
  | l :: m :: ls, i, j + 1, h, hj => by
    have := shape_at hk j h.2.2 (by simpa using hj)
    rw [show i + 1 + j = i + (j + 1) by omega] at this
    refine ⟨this.1, this.2.1, fun e => this.2.2 fun e' => e ?_⟩
    simp at e' ⊢
    omega
theorem allOf_drop {L : Lv} {i : Nat} (h : i < L.length) : allOf (L.drop i) = allOf (L.drop (i + 1)) ++ lev L i := by
  rw [drop_lev h]
  rfl
theorem allOf_pre : ∀ (L : Lv) (m : Nat), ∃ suf, allOf L = allOf (L.drop m) ++ suf
  | [], m => ⟨[], by simp [allOf]⟩
  | l :: ls, 0 => ⟨[], by simp⟩
  | l :: ls, m + 1 => by
    obtain ⟨suf, h⟩ := allOf_pre ls m
    exact ⟨suf ++ l, by rw [allOf, h, List.drop_succ_cons, List.append_assoc]⟩
/-- The To of the last one, or 0. -/
def ahead (xs : List Sp) : Nat := (xs.getLast?.map (·.2)).getD 0
theorem ahead_snoc (xs : List Sp) (s : Sp) : ahead (xs ++ [s]) = s.2 := by simp [ahead]
theorem turn_next {xs ys : List Sp} {s : Sp} (h : Turn (xs ++ s :: ys)) : ahead xs ≤ s.1 ∧ s.1 ≤ s.2 := by
  obtain ⟨h1, h2, h3⟩ := turn_app.1 h
  refine ⟨?_, h2.1 s (by simp)⟩
  unfold ahead
  cases hl : xs.getLast? with
  | none => simp
  | some x => exact h3 x (List.mem_of_getLast? hl) s (by simp)
theorem turn_drop {L : Lv} (h : Turn (allOf L)) (m : Nat) : Turn (allOf (L.drop m)) := by
  obtain ⟨suf, e⟩ := allOf_pre L m
  rw [e] at h
  exact (turn_app.1 h).1
theorem flat_at {L : Lv} (h : flat L) (x : Sp) (hx : x ∈ lev L 0) : x.1 = x.2 := by
  cases L with
  | nil => simp [lev] at hx
  | cons l ls => exact h x hx
theorem lev_turn {L : Lv} (h : Turn (allOf L)) {i j : Nat} (hi : i < L.length) (hj : j < (lev L i).length) : ahead (allOf (L.drop (i + 1)) ++ (lev L i).take j) ≤ (lev L i)[j].1 ∧ (lev L i)[j].1 ≤ (lev L i)[j].2 := by
  have h1 := turn_drop h i
  rw [allOf_drop hi] at h1
  refine turn_next (ys := (lev L i).drop (j + 1)) ?_
  rw [List.append_assoc, ← List.drop_eq_getElem_cons hj, List.take_append_drop]
  exact h1

/-- A level of what is left. -/
theorem lev_trim : ∀ (M : Lv) (i : Nat), lev (trim M) i = lev M i
  | [], _ => rfl
  | l :: ls, i => by
    rw [trim]
    split
    · rename_i h
      cases i with
      | zero => rw [h.1]; rfl
      | succ i =>
        have := lev_trim ls i
        rw [h.2] at this
        show lev [] (i + 1) = lev ls i
        rw [← this]
        rfl
    · cases i with
      | zero => rfl
      | succ i => exact lev_trim ls i
theorem lev_map (f w : Nat) (L : Lv) (i : Nat) : lev (L.map (cutL f w)) i = cutL f w (lev L i) := by
  unfold lev
  rw [List.getElem?_map]
  cases L[i]? <;> rfl
theorem lev_drop (f w : Nat) (L : Lv) (i : Nat) : lev (dropL f w L) i = cutL f w (lev L i) := by
  unfold dropL
  rw [lev_trim, lev_map]
theorem drop_len (f w : Nat) (L : Lv) : (dropL f w L).length ≤ L.length := by
  unfold dropL
  have := trim_len (L.map (cutL f w))
  simpa using this
theorem turn_lev {L : Lv} (h : Turn (allOf L)) {i : Nat} (hi : i < L.length) : Turn (lev L i) := by
  have h1 := turn_drop h i
  rw [allOf_drop hi] at h1
  exact (turn_app.1 h1).2.1

end Go.Proofs.Lh
end
