/- More plain mathematics of what is dropped: level by level, from the last one, and from the first one. · Plain mathematics of a histogram's shape, level by level. · Plain mathematics of estimates: which units a bucket stands for; what is sure, what is cut, and what really came. · What really came, deed by deed, and the units that a histogram stands for. -/
import Derived.Test.YtmdknedngiggdaaJ08
import Derived.Test.YtmdknedngiggdaaJ07
section
/- More plain mathematics of what is dropped: level by level, from the last one, and from the first one. -/
namespace Go.Proofs.Lh
open Go.Proofs.Lm (Sp Turn)

theorem trim_none : ∀ {M : Lv}, (∀ l ∈ M, l = []) → trim M = []
  | [], _ => rfl
  | l :: ls, h => by
    rw [trim, if_pos ⟨h l List.mem_cons_self, trim_none fun m hm => h m (List.mem_cons_of_mem _ hm)⟩]
theorem trim_stop : ∀ (A : Lv) {x : List Sp} {B : Lv}, x ≠ [] → (∀ l ∈ B, l = []) → trim (A ++ x :: B) = A ++ [x]
  | [], x, B, hx, hB => by
    rw [List.nil_append, List.nil_append, trim, trim_none hB, if_neg fun h => hx h.1]
  | a :: A, x, B, hx, hB => by
    rw [List.cons_append, trim, trim_stop A hx hB, if_neg (fun h => by simp at h), List.cons_append]
theorem trim_snoc (M : Lv) (x : List Sp) : trim (M ++ [x]) = if x = [] then trim M else M ++ [x] := by
  by_cases hx : x = []
  · rw [if_pos hx, hx]
    induction M with
    | nil => rfl
    | cons a A ih => rw [List.cons_append, trim, trim, ih]
  · rw [if_neg hx]
    exact trim_stop M hx fun l hl => by cases hl
theorem trim_len : ∀ M : Lv, (trim M).length ≤ M.length
  | [] => Nat.le_refl _
  | l :: ls => by
    have := trim_len ls
    rw [trim]
    split
    · simp
    · simp; omega
theorem trim_take : ∀ M : Lv, M.take (trim M).length = trim M
  | [] => rfl
  | l :: ls => by
    rw [trim]
    split
    · rfl
    · rw [List.length_cons, List.take_succ_cons, trim_take ls]

/-- All of a level is old. -/
def Gone (f w : Nat) (l : List Sp) : Prop := ∀ x ∈ l, oldB x.2 f w = true
theorem Gone.cut {f w : Nat} {l : List Sp} (h : Gone f w l) : cutL f w l = [] := by
  unfold cutL
  rw [List.filter_eq_nil_iff]
  intro x hx
  rw [h x hx]
  simp
/-- From the last level on: all levels from i + 1 on are old, the first j of the level i, too, and the next one isn't. -/
theorem drop_stop {f w i j : Nat} {ls : Lv} (ht : Turn (allOf ls)) (hi : i < ls.length) (hg : ∀ m, i < m → Gone f w (lev ls m)) (hj : j < (lev ls i).length) (ho : Gone f w ((lev ls i).take j)) (hn : oldB ((lev ls i)[j]).2 f w = false) :
    dropL f w ls = ls.take i ++ [(lev ls i).drop j] := by
  have e : ls = ls.take i ++ lev ls i :: ls.drop (i + 1) := by
    rw [← drop_lev hi, List.take_append_drop]
  have hle := lev_lt hi
  have ht2 := ht
  rw [e] at ht2
  have hall : ∀ (A : Lv) (x : List Sp) (B : Lv), allOf (A ++ x :: B) = allOf B ++ x ++ allOf A := by
    intro A x B
    induction A with
    | nil => simp [allOf]
    | cons a A ih => rw [List.cons_append, allOf, ih, allOf]; simp
  rw [hall] at ht2
  obtain ⟨t1, t2, t3⟩ := turn_app.1 ht2
  obtain ⟨t4, t5, t6⟩ := turn_app.1 t1
  generalize hl : lev ls i = l at *
  have hsp : l = l.take j ++ l[j] :: l.drop (j + 1) := by
    rw [← List.drop_eq_getElem_cons hj, List.take_append_drop]
  -- the level i
  have hcut : cutL f w l = l.drop j := by
    have h1 : cutL f w l = cutL f w (l.take j) ++ cutL f w (l.drop j) := by
      unfold cutL
      rw [← List.filter_append, List.take_append_drop]
    have h2 : cutL f w (l.drop j) = l.drop j := by
      refine cut_all fun x hx => ?_
      rw [List.drop_eq_getElem_cons hj] at hx
      rcases List.mem_cons.1 hx with rfl | hx
      · exact hn
      · have h3 : Turn (l[j] :: l.drop (j + 1)) := by
          rw [← List.drop_eq_getElem_cons hj]
          exact turn_sub t5 (List.drop_sublist _ _)
        have h4 := (List.pairwise_cons.1 h3.2).1 x hx
        have h5 := h3.1 x (List.mem_cons_of_mem _ hx)
        unfold oldB at hn ⊢
        rw [decide_eq_false_iff_not] at hn ⊢
        omega
    rw [h1, ho.cut, h2, List.nil_append]
  -- those below
  have hlow : (ls.take i).map (cutL f w) = ls.take i := by
    conv => rhs; rw [← List.map_id (ls.take i)]
    refine List.map_congr_left fun m hm => cut_all fun x hx => ?_
    have hxa : x ∈ allOf (ls.take i) := mem_all hm hx
    have hja : l[j] ∈ allOf (ls.drop (i + 1)) ++ l := List.mem_append_right _ (List.getElem_mem hj)
    have h4 := t3 _ hja x hxa
    have h5 := t2.1 x hxa
    unfold oldB at hn ⊢
    rw [decide_eq_false_iff_not] at hn ⊢
    omega
  unfold dropL
  conv => lhs; rw [e]
  rw [List.map_append, List.map_cons, hcut, hlow]
  refine trim_stop _ ?_ ?_
  · intro h
    have := congrArg List.length h
    simp at this
    omega
  · intro m hm
    obtain ⟨m', hm', rfl⟩ := List.mem_map.1 hm
    obtain ⟨n, hn', rfl⟩ := List.getElem_of_mem hm'
    rw [List.getElem_drop]
    have h7 : i + 1 + n < ls.length := by simp at hn'; omega
    have := hg (i + 1 + n) (by omega)
    rw [lev_lt h7] at this
    exact this.cut
theorem drop_gone {f w : Nat} {ls : Lv} (hg : ∀ m, Gone f w (lev ls m)) : dropL f w ls = [] := by
  unfold dropL
  refine trim_none fun m hm => ?_
  obtain ⟨m', hm', rfl⟩ := List.mem_map.1 hm
  obtain ⟨n, hn', rfl⟩ := List.getElem_of_mem hm'
  have := hg n
  rw [lev_lt hn'] at this
  exact this.cut
theorem gone_take {f w j : Nat} {l : List Sp} (h : Gone f w (l.take j)) (hj : j < l.length) (ho : oldB l[j].2 f w = true) : Gone f w (l.take (j + 1)) := by
  intro x hx
  rw [List.take_succ_eq_append_getElem hj, List.mem_append] at hx
  rcases hx with hx | hx
  · exact h x hx
  · rw [List.mem_singleton.1 hx]
    exact ho

/-- How many levels there are, up to the level i: the document's way. -/
def manyTo (f w : Nat) (ls : Lv) (i : Nat) : Nat := (trim ((ls.take i).map (cutL f w))).length
theorem many_zero (f w : Nat) (ls : Lv) : manyTo f w ls 0 = 0 := rfl
theorem many_succ {f w i : Nat} {ls : Lv} (hi : i < ls.length) : manyTo f w ls (i + 1) = if cutL f w ls[i] = [] then manyTo f w ls i else i + 1 := by
  unfold manyTo
  rw [List.take_succ_eq_append_getElem hi, List.map_append, List.map_cons, List.map_nil, trim_snoc]
  split
  · rfl
  · simp; omega
theorem many_le (f w : Nat) (ls : Lv) (i : Nat) : manyTo f w ls i ≤ i := by
  unfold manyTo
  have h1 := trim_len ((ls.take i).map (cutL f w))
  simp only [List.length_map, List.length_take] at h1
  omega
theorem many_all (f w : Nat) (ls : Lv) : (ls.map (cutL f w)).take (manyTo f w ls ls.length) = dropL f w ls := by
  unfold manyTo dropL
  rw [List.take_length]
  exact trim_take _
theorem cut_snoc {f w j : Nat} {l : List Sp} (hj : j < l.length) : cutL f w (l.take (j + 1)) = if oldB l[j].2 f w then cutL f w (l.take j) else cutL f w (l.take j) ++ [l[j]] := by
  unfold cutL
  rw [List.take_succ_eq_append_getElem hj, List.filter_append, List.filter_cons, List.filter_nil]
  cases oldB l[j].2 f w <;> simp

end Go.Proofs.Lh
end
section
/- Plain mathematics of a histogram's shape, level by level. -/
namespace Go.Proofs.Lh
open Go.Proofs.Lm (Sp Turn)
theorem shape_at {k : Nat} (hk : 1 ≤ k) : ∀ {ls : Lv} {i : Nat} (j : Nat), Shape k i ls → j < ls.length → 1 ≤ (lev ls j).length ∧ (lev ls j).length ≤ rm k (i + j) ∧ (j + 1 ≠ ls.length → rm k (i + j) - 1 ≤ (lev ls j).length)
  | [], _, _, _, h => absurd h (by simp)
  | [l], i, 0, h, _ => ⟨h.1, h.2, fun e => absurd rfl e⟩
  | [l], i, j + 1, _, hj => absurd hj (by simp)
  | l :: m :: ls, i, 0, h, _ => ⟨by have := rm_two k i hk; have := h.1; show 1 ≤ l.length; omega, h.2.1, fun _ => h.1⟩
  | l :: m :: ls, i, j + 1, h, hj => by
    have := shape_at hk j h.2.2 (by simpa using hj)
    rw [show i + 1 + j = i + (j + 1) by omega] at this
    refine ⟨this.1, this.2.1, fun e => this.2.2 fun e' => e ?_⟩
    simp at e' ⊢
    omega
theorem allOf_drop {L : Lv} {i : Nat} (h : i < L.length) : allOf (L.drop i) = allOf (L.drop (i + 1)) ++ lev L i := by
  rw [drop_lev h]
  rfl
theorem allOf_pre : ∀ (L : Lv) (m : Nat), ∃ suf, allOf L = allOf (L.drop m) ++ suf
  | [], m => ⟨[], by simp [allOf]⟩
  | l :: ls, 0 => ⟨[], by simp⟩
  | l :: ls, m + 1 => by
    obtain ⟨suf, h⟩ := allOf_pre ls m
    exact ⟨suf ++ l, by rw [allOf, h, List.drop_succ_cons, List.append_assoc]⟩
/-- The To of the last one, or 0. -/
def ahead (xs : List Sp) : Nat := (xs.getLast?.map (·.2)).getD 0
theorem ahead_snoc (xs : List Sp) (s : Sp) : ahead (xs ++ [s]) = s.2 := by simp [ahead]
theorem turn_next {xs ys : List Sp} {s : Sp} (h : Turn (xs ++ s :: ys)) : ahead xs ≤ s.1 ∧ s.1 ≤ s.2 := by
  obtain ⟨h1, h2, h3⟩ := turn_app.1 h
  refine ⟨?_, h2.1 s (by simp)⟩
  unfold ahead
  cases hl : xs.getLast? with
  | none => simp
  | some x => exact h3 x (List.mem_of_getLast? hl) s (by simp)
theorem turn_drop {L : Lv} (h : Turn (allOf L)) (m : Nat) : Turn (allOf (L.drop m)) := by
  obtain ⟨suf, e⟩ := allOf_pre L m
  rw [e] at h
  exact (turn_app.1 h).1
theorem flat_at {L : Lv} (h : flat L) (x : Sp) (hx : x ∈ lev L 0) : x.1 = x.2 := by
  cases L with
  | nil => simp [lev] at hx
  | cons l ls => exact h x hx
theorem lev_turn {L : Lv} (h : Turn (allOf L)) {i j : Nat} (hi : i < L.length) (hj : j < (lev L i).length) : ahead (allOf (L.drop (i + 1)) ++ (lev L i).take j) ≤ (lev L i)[j].1 ∧ (lev L i)[j].1 ≤ (lev L i)[j].2 := by
  have h1 := turn_drop h i
  rw [allOf_drop hi] at h1
  refine turn_next (ys := (lev L i).drop (j + 1)) ?_
  rw [List.append_assoc, ← List.drop_eq_getElem_cons hj, List.take_append_drop]
  exact h1

/-- A level of what is left. -/
theorem lev_trim : ∀ (M : Lv) (i : Nat), lev (trim M) i = lev M i
  | [], _ => rfl
  | l :: ls, i => by
    rw [trim]
    split
    · rename_i h
      cases i with
      | zero => rw [h.1]; rfl
      | succ i =>
        have := lev_trim ls i
        rw [h.2] at this
        show lev [] (i + 1) = lev ls i
        rw [← this]
        rfl
    · cases i with
      | zero => rfl
      | succ i => exact lev_trim ls i
theorem lev_map (f w : Nat) (L : Lv) (i : Nat) : lev (L.map (cutL f w)) i = cutL f w (lev L i) := by
  unfold lev
  rw [List.getElem?_map]
  cases L[i]? <;> rfl
theorem lev_drop (f w : Nat) (L : Lv) (i : Nat) : lev (dropL f w L) i = cutL f w (lev L i) := by
  unfold dropL
  rw [lev_trim, lev_map]
theorem drop_len (f w : Nat) (L : Lv) : (dropL f w L).length ≤ L.length := by
  unfold dropL
  have := trim_len (L.map (cutL f w))
  simpa using this
theorem turn_lev {L : Lv} (h : Turn (allOf L)) {i : Nat} (hi : i < L.length) : Turn (lev L i) := by
  have h1 := turn_drop h i
  rw [allOf_drop hi] at h1
  exact (turn_app.1 h1).2.1

end Go.Proofs.Lh
end
section
/- Plain mathematics of estimates: which units a bucket stands for; what is sure, what is cut, and what really came. -/
namespace Go.Proofs.Lh
open Go.Proofs.Lm (Sp Turn)

/-! ### Units: a bucket of the level i stands for 2^i units, one behind the other -/

def Seg (i : Nat) : List Sp → List Nat → Prop
  | [], us => us = []
  | b :: l, us => ∃ u v, us = u ++ v ∧ u.length = 2 ^ i ∧ u.head? = some b.1 ∧ u.getLast? = some b.2 ∧ Seg i l v
/-- Levels stand for units, the last level for the oldest ones. -/
def Rep : Nat → Lv → List Nat → Prop
  | _, [], us => us = []
  | i, l :: ls, us => ∃ uo un, us = uo ++ un ∧ Rep (i + 1) ls uo ∧ Seg i l un

theorem seg_app (i : Nat) : ∀ {l m : List Sp} {u v : List Nat}, Seg i l u → Seg i m v → Seg i (l ++ m) (u ++ v)
  | [], m, u, v, h, k => by rw [show u = [] from h]; exact k
  | b :: l, m, u, v, ⟨a, c, e, h1, h2, h3, h4⟩, k => ⟨a, c ++ v, by rw [e, List.append_assoc], h1, h2, h3, seg_app i h4 k⟩
theorem seg_split (i : Nat) : ∀ {l m : List Sp} {us : List Nat}, Seg i (l ++ m) us → ∃ u v, us = u ++ v ∧ Seg i l u ∧ Seg i m v
  | [], m, us, h => ⟨[], us, rfl, rfl, h⟩
  | b :: l, m, us, h => by
    obtain ⟨a, c, e, h1, h2, h3, h4⟩ := h
    obtain ⟨u, v, e2, k1, k2⟩ := seg_split i h4
    exact ⟨a ++ u, v, by rw [e, e2, List.append_assoc], ⟨a, u, rfl, h1, h2, h3, k1⟩, k2⟩
theorem seg_pair (i : Nat) : ∀ {l : List Sp} {us : List Nat}, l.length % 2 = 0 → Seg i l us → Seg (i + 1) (pairUp l) us
  | [], _, _, h => h
  | [_], _, hl, _ => by simp at hl
  | a :: b :: r, us, hl, h => by
    obtain ⟨u, v, e, h1, h2, h3, x, y, e2, k1, k2, k3, k4⟩ := h
    have hp : 0 < 2 ^ i := Nat.two_pow_pos i
    refine ⟨u ++ x, y, by rw [e, e2, List.append_assoc], by rw [List.length_append, h1, k1, Nat.pow_succ]; omega, ?_, ?_, seg_pair i (by simp at hl; omega) k4⟩
    · rw [List.head?_append, h2]; rfl
    · rw [List.getLast?_append, k3]; rfl
theorem seg_len (i : Nat) : ∀ {l : List Sp} {us : List Nat}, Seg i l us → us.length = l.length * 2 ^ i
  | [], us, h => by rw [show us = [] from h]; simp
  | b :: l, us, ⟨a, c, e, h1, _, _, h4⟩ => by
    have := seg_len i h4
    rw [e, List.length_append, h1, this, List.length_cons, Nat.add_mul]
    omega
theorem seg_push {i : Nat} {l : List Sp} {us : List Nat} {room : Nat} (hr : 1 ≤ room) (h : Seg i l us) : ∃ u v, us = u ++ v ∧ Seg (i + 1) (wentL l room) u ∧ Seg i (stayL l room) v := by
  have hp := prs_le l.length room hr
  rw [← List.take_append_drop (2 * prs l.length room) l] at h
  obtain ⟨u, v, e, h1, h2⟩ := seg_split i h
  exact ⟨u, v, e, seg_pair i (by rw [List.length_take]; omega) h1, h2⟩
theorem rep_new (k : Nat) : ∀ (n i : Nat) (come : List Sp) (us : List Nat), come.length ≤ n → Seg i come us → Rep i (newL k i come) us := by
  intro n
  induction n with
  | zero =>
    intro i come us h hs
    have : come = [] := List.eq_nil_of_length_eq_zero (by omega)
    subst this
    rw [newL_nil]
    exact hs
  | succ n ih =>
    intro i come us h hs
    by_cases hc : come = []
    · subst hc
      rw [newL_nil]
      exact hs
    · have h1 := went_lt come (rm k i) (rm_pos k i) hc
      obtain ⟨u, v, e, k1, k2⟩ := seg_push (rm_pos k i) hs
      rw [newL_ne k i hc]
      exact ⟨u, v, e, ih (i + 1) _ _ (by omega) k1, k2⟩
theorem rep_add (k : Nat) : ∀ {ls : Lv} {i : Nat} {come : List Sp} {uo uc : List Nat}, Rep i ls uo → Seg i come uc → Rep i (addL k i ls come) (uo ++ uc)
  | [], i, come, uo, uc, h, hc => by
    rw [addL, show uo = [] from h, List.nil_append]
    exact rep_new k _ i come uc (Nat.le_refl _) hc
  | l :: ls, i, come, uo, uc, ⟨a, b, e, h1, h2⟩, hc => by
    obtain ⟨u, v, e2, k1, k2⟩ := seg_push (rm_pos k i) (seg_app i h2 hc)
    rw [addL]
    exact ⟨a ++ u, v, by rw [e, List.append_assoc, e2, List.append_assoc], rep_add k h1 k1, k2⟩
theorem seg_units (t : Nat) : ∀ n : Nat, Seg 0 (List.replicate n (t, t)) (List.replicate n t)
  | 0 => rfl
  | n + 1 => ⟨[t], List.replicate n t, rfl, rfl, rfl, rfl, seg_units t n⟩
theorem rep_addW (k : Nat) {ls : Lv} {us : List Nat} (h : Rep 0 ls us) (t n : Nat) : Rep 0 (addW k ls t n) (us ++ List.replicate n t) := rep_add k h (seg_units t n)

/-! ### What is sure, and what is cut -/

/-- What is within at a tick is within at a later one. -/
def Up (p : Nat → Bool) : Prop := ∀ a b, a ≤ b → p a = true → p b = true
def sureP (p : Nat → Bool) (b : Sp) : Bool := p b.1
def cutP (p : Nat → Bool) (b : Sp) : Bool := !p b.1 && p b.2
def sureL (p : Nat → Bool) : Nat → Lv → Nat
  | _, [] => 0
  | i, l :: ls => l.countP (sureP p) * 2 ^ i + sureL p (i + 1) ls
def cutS (p : Nat → Bool) : Nat → Lv → Nat
  | _, [] => 0
  | i, l :: ls => l.countP (cutP p) * 2 ^ i + cutS p (i + 1) ls
/-- The estimate. -/
def estL (p : Nat → Bool) (L : Lv) : Nat := sureL p 0 L + cutS p 0 L / 2

theorem countP_sorted_all {p : Nat → Bool} (hp : Up p) {u : List Nat} {a : Nat} (hs : u.Pairwise (· ≤ ·)) (hh : u.head? = some a) (ha : p a = true) : u.countP p = u.length := by
  rw [List.countP_eq_length]
  intro x hx
  cases u with
  | nil => cases hx
  | cons y u =>
    injection hh with hh
    subst hh
    rcases List.mem_cons.1 hx with rfl | hx
    · exact ha
    · exact hp _ _ ((List.pairwise_cons.1 hs).1 x hx) ha
theorem countP_sorted_none {p : Nat → Bool} (hp : Up p) {u : List Nat} {b : Nat} (hs : u.Pairwise (· ≤ ·)) (hl : u.getLast? = some b) (hb : p b = false) : u.countP p = 0 := by
  rw [List.countP_eq_zero]
  intro x hx hpx
  obtain ⟨v, rfl⟩ : ∃ v, u = v ++ [b] := by
    rcases List.eq_nil_or_concat u with e | ⟨v, y, e⟩
    · rw [e] at hl; cases hl
    · rw [e] at hl
      simp at hl
      exact ⟨v, by rw [e, hl]; simp⟩
  have hxb : x ≤ b := by
    rcases List.mem_append.1 hx with h | h
    · exact (List.pairwise_append.1 hs).2.2 x h b (by simp)
    · rw [List.mem_singleton.1 h]; exact Nat.le_refl _
  have := hp x b hxb hpx
  rw [hb] at this
  cases this
theorem seg_count {p : Nat → Bool} (hp : Up p) (i : Nat) : ∀ {l : List Sp} {us : List Nat}, Seg i l us → us.Pairwise (· ≤ ·) → l.countP (sureP p) * 2 ^ i ≤ us.countP p ∧ us.countP p ≤ l.countP (sureP p) * 2 ^ i + l.countP (cutP p) * 2 ^ i
  | [], us, h, _ => by rw [show us = [] from h]; simp
  | b :: l, us, ⟨u, v, e, h1, h2, h3, h4⟩, hs => by
    subst e
    obtain ⟨s1, s2, _⟩ := List.pairwise_append.1 hs
    obtain ⟨k1, k2⟩ := seg_count hp i h4 s2
    rw [List.countP_append, List.countP_cons, List.countP_cons]
    have hle : u.countP p ≤ 2 ^ i := by rw [← h1]; exact List.countP_le_length
    cases hb1 : p b.1 with
    | true =>
      have := countP_sorted_all hp s1 h2 hb1
      have e1 : sureP p b = true := hb1
      have e2 : cutP p b = false := by unfold cutP; rw [hb1]; rfl
      rw [e1, e2, if_pos rfl, if_neg (by simp), Nat.add_mul, Nat.add_zero]
      omega
    | false =>
      have e1 : sureP p b = false := hb1
      cases hb2 : p b.2 with
      | true =>
        have e2 : cutP p b = true := by unfold cutP; rw [hb1, hb2]; rfl
        rw [e1, e2, if_neg (by simp), if_pos rfl, Nat.add_zero, Nat.add_mul]
        omega
      | false =>
        have := countP_sorted_none hp s1 h3 hb2
        have e2 : cutP p b = false := by unfold cutP; rw [hb1, hb2]; rfl
        rw [e1, e2, if_neg (by simp), Nat.add_zero, Nat.add_zero]
        omega
/-- What is sure is no more than what really came, and with what is cut it is no less. -/
theorem rep_count {p : Nat → Bool} (hp : Up p) : ∀ {L : Lv} {i : Nat} {us : List Nat}, Rep i L us → us.Pairwise (· ≤ ·) → sureL p i L ≤ us.countP p ∧ us.countP p ≤ sureL p i L + cutS p i L
  | [], i, us, h, _ => by rw [show us = [] from h]; simp [sureL, cutS]
  | l :: ls, i, us, ⟨uo, un, e, h1, h2⟩, hs => by
    subst e
    obtain ⟨s1, s2, _⟩ := List.pairwise_append.1 hs
    have a := rep_count hp h1 s1
    have b := seg_count hp i h2 s2
    rw [List.countP_append, sureL, cutS]
    omega

/-! ### The bound -/

theorem cut_some {p : Nat → Bool} : ∀ {L : Lv} {i : Nat}, cutS p i L ≠ 0 → ∃ b ∈ allOf L, p b.2 = true
  | [], _, h => absurd rfl h
  | l :: ls, i, h => by
    rw [cutS] at h
    by_cases h1 : cutS p (i + 1) ls = 0
    · have h2 : l.countP (cutP p) ≠ 0 := by
        intro e
        rw [e, h1] at h
        simp at h
      obtain ⟨b, hb, hc⟩ := List.countP_pos_iff.1 (Nat.pos_of_ne_zero h2)
      unfold cutP at hc
      simp at hc
      exact ⟨b, by rw [allOf]; exact List.mem_append_right _ hb, hc.2⟩
    · obtain ⟨b, hb, hc⟩ := cut_some h1
      exact ⟨b, by rw [allOf]; exact List.mem_append_left _ hb, hc⟩
theorem later_sure {p : Nat → Bool} (hp : Up p) {l : List Sp} {a : Sp} (ha : p a.2 = true) (h : ∀ b ∈ l, a.2 ≤ b.1) : l.countP (sureP p) = l.length ∧ l.countP (cutP p) = 0 := by
  constructor
  · rw [List.countP_eq_length]
    exact fun b hb => hp _ _ (h b hb) ha
  · rw [List.countP_eq_zero]
    intro b hb hc
    unfold cutP at hc
    rw [hp _ _ (h b hb) ha] at hc
    simp at hc
theorem cut_one {p : Nat → Bool} (hp : Up p) : ∀ {l : List Sp}, Turn l → l.countP (cutP p) ≤ 1
  | [], _ => by simp
  | b :: l, h => by
    have hl : Turn l := turn_sub h (List.sublist_cons_self b l)
    have ih := cut_one hp hl
    rw [List.countP_cons]
    cases hb : cutP p b with
    | false => simpa using ih
    | true =>
      have hb2 : p b.2 = true := by unfold cutP at hb; simp at hb; exact hb.2
      have := (later_sure hp hb2 fun c hc => (List.pairwise_cons.1 h.2).1 c hc).2
      rw [this, if_pos rfl]
      omega
/-- A bucket that is cut on a level from i on has no more units than all that are newer, by k. -/
theorem cut_bound {p : Nat → Bool} (hp : Up p) {k : Nat} (hk : 1 ≤ k) : ∀ {L : Lv} {i : Nat} (T : Nat), 1 ≤ i → Shape k i L → Turn (allOf L) → k * 2 ^ i ≤ 2 * T → k * cutS p i L ≤ 2 * (T + sureL p i L)
  | [], _, T, _, _, _, _ => by simp [cutS, sureL]
  | l :: ls, i, T, hi, hs, ht, hT => by
    have htt := ht
    rw [allOf] at htt
    obtain ⟨t1, t2, t3⟩ := turn_app.1 htt
    rw [cutS, sureL]
    by_cases h0 : cutS p (i + 1) ls = 0
    · rw [h0, Nat.add_zero]
      have h1 := cut_one hp t2
      rcases Nat.eq_zero_or_pos (l.countP (cutP p)) with e | e
      · rw [e]; simp
      · rw [show l.countP (cutP p) = 1 by omega, Nat.one_mul]
        omega
    · obtain ⟨a, ha, hpa⟩ := cut_some h0
      obtain ⟨e1, e2⟩ := later_sure hp hpa (fun b hb => t3 a ha b hb)
      rw [e1, e2, Nat.zero_mul, Nat.zero_add]
      cases ls with
      | nil => exact absurd rfl h0
      | cons m ls =>
        have hm : (k + 1) / 2 ≤ l.length := by
          have h3 : rm k i - 1 ≤ l.length := hs.1
          unfold rm at h3
          rw [if_neg (by omega)] at h3
          omega
        have hmul : (k + 1) / 2 * 2 ^ i ≤ l.length * 2 ^ i := Nat.mul_le_mul_right _ hm
        have hkk : k * 2 ^ i ≤ 2 * ((k + 1) / 2 * 2 ^ i) := by
          rw [← Nat.mul_assoc]
          exact Nat.mul_le_mul_right _ (by omega)
        have := cut_bound hp hk (T + l.length * 2 ^ i) (by omega) hs.2.2 t1 (by rw [Nat.pow_succ, ← Nat.mul_assoc]; omega)
        omega
theorem cut_flat {p : Nat → Bool} {l : List Sp} (h : ∀ x ∈ l, x.1 = x.2) : l.countP (cutP p) = 0 := by
  rw [List.countP_eq_zero]
  intro b hb hc
  unfold cutP at hc
  rw [h b hb] at hc
  cases p b.2 <;> simp at hc
theorem cut_even {p : Nat → Bool} : ∀ {L : Lv} {i : Nat}, 1 ≤ i → cutS p i L % 2 = 0
  | [], _, _ => rfl
  | l :: ls, i, h => by
    have := cut_even (p := p) (L := ls) (i := i + 1) (by omega)
    obtain ⟨j, rfl⟩ : ∃ j, i = j + 1 := ⟨i - 1, by omega⟩
    rw [cutS, Nat.pow_succ, ← Nat.mul_assoc]
    omega
theorem Made.cut {k : Nat} {L : Lv} (h : Made k L) {p : Nat → Bool} (hp : Up p) : k * cutS p 0 L ≤ 2 * sureL p 0 L ∧ cutS p 0 L % 2 = 0 := by
  have hk := h.k2
  have hs := h.ok.shape
  have ht := h.ok.turn
  have hf := h.ok.flat
  cases L with
  | nil => simp [cutS, sureL]
  | cons l ls =>
    rw [cutS, sureL, cut_flat hf, Nat.zero_mul, Nat.zero_add]
    refine ⟨?_, cut_even (by omega)⟩
    rw [allOf] at ht
    obtain ⟨t1, t2, t3⟩ := turn_app.1 ht
    by_cases h0 : cutS p (0 + 1) ls = 0
    · rw [h0]; simp
    · obtain ⟨a, ha, hpa⟩ := cut_some h0
      obtain ⟨e1, e2⟩ := later_sure hp hpa (fun b hb => t3 a ha b hb)
      rw [e1]
      cases ls with
      | nil => exact absurd rfl h0
      | cons m ls =>
        have hm : k ≤ l.length := by
          have h3 : rm k 0 - 1 ≤ l.length := hs.1
          unfold rm at h3
          rw [if_pos rfl] at h3
          omega
        exact cut_bound hp (by omega) (l.length * 2 ^ 0) (by omega) hs.2.2 t1 (by simp; omega)
/-- THE BOUND. -/
theorem Made.bound {k : Nat} {L : Lv} (h : Made k L) {p : Nat → Bool} (hp : Up p) {us : List Nat} (hr : Rep 0 L us) (hs : us.Pairwise (· ≤ ·)) : (k - 1) * us.countP p ≤ k * estL p L ∧ k * estL p L ≤ (k + 1) * us.countP p := by
  obtain ⟨h1, h2⟩ := h.cut hp
  obtain ⟨h3, h4⟩ := rep_count hp hr hs
  unfold estL
  have hk := h.k2
  obtain ⟨c, hc⟩ : ∃ c, cutS p 0 L = 2 * c := ⟨cutS p 0 L / 2, by omega⟩
  rw [hc] at h1 h4 ⊢
  rw [show 2 * c / 2 = c by omega]
  generalize sureL p 0 L = s at *
  generalize us.countP p = n at *
  have h5 : k * c ≤ s := by
    have : k * (2 * c) = 2 * (k * c) := by rw [Nat.mul_left_comm]
    omega
  obtain ⟨j, rfl⟩ : ∃ j, k = j + 1 := ⟨k - 1, by omega⟩
  constructor
  · -- (k - 1) n ≤ k (s + c): k n ≤ k (s + 2 c), and k c ≤ s ≤ n
    have a1 : (j + 1) * n ≤ (j + 1) * (s + 2 * c) := Nat.mul_le_mul_left _ h4
    have a2 : (j + 1) * (s + 2 * c) = (j + 1) * (s + c) + (j + 1) * c := by rw [← Nat.mul_add]; congr 1; omega
    have a3 : (j + 1) * n = j * n + n := by rw [Nat.add_mul]; omega
    rw [show j + 1 - 1 = j by omega]
    omega
  · have a1 : (j + 1) * s ≤ (j + 1) * n := Nat.mul_le_mul_left _ h3
    rw [Nat.mul_add, show (j + 1 + 1) * n = (j + 1) * n + n by rw [Nat.add_mul (j + 1) 1]; omega]
    omega

/-! ### More is within: as much, or more; what is dropped; all -/

theorem count_mono {p q : Nat → Bool} (h : ∀ x, p x = true → q x = true) : ∀ l : List Sp, 2 * l.countP (sureP p) + l.countP (cutP p) ≤ 2 * l.countP (sureP q) + l.countP (cutP q)
  | [] => by simp
  | b :: l => by
    have ih := count_mono h l
    rw [List.countP_cons, List.countP_cons, List.countP_cons, List.countP_cons]
    have h1 := h b.1
    have h2 := h b.2
    unfold sureP cutP at *
    cases hp1 : p b.1 <;> cases hp2 : p b.2 <;> cases hq1 : q b.1 <;> cases hq2 : q b.2 <;> simp_all <;> omega
theorem two_mono {p q : Nat → Bool} (h : ∀ x, p x = true → q x = true) : ∀ (L : Lv) (i : Nat), 2 * sureL p i L + cutS p i L ≤ 2 * sureL q i L + cutS q i L
  | [], _ => Nat.le_refl _
  | l :: ls, i => by
    have ih := two_mono h ls (i + 1)
    have := Nat.mul_le_mul_right (2 ^ i) (count_mono h l)
    rw [Nat.add_mul, Nat.add_mul, Nat.mul_assoc, Nat.mul_assoc] at this
    rw [sureL, cutS, sureL, cutS]
    omega
theorem est_mono {p q : Nat → Bool} (h : ∀ x, p x = true → q x = true) (L : Lv) : estL p L ≤ estL q L := by
  have := two_mono h L 0
  unfold estL
  omega
theorem sure_all {p : Nat → Bool} (h : ∀ x, p x = true) : ∀ (L : Lv) (i : Nat), sureL p i L = totFrom i L ∧ cutS p i L = 0
  | [], _ => ⟨rfl, rfl⟩
  | l :: ls, i => by
    obtain ⟨h1, h2⟩ := sure_all h ls (i + 1)
    have e1 : l.countP (sureP p) = l.length := List.countP_eq_length.2 fun b _ => h b.1
    have e2 : l.countP (cutP p) = 0 := List.countP_eq_zero.2 fun b _ hc => by unfold cutP at hc; rw [h b.1] at hc; simp at hc
    rw [sureL, cutS, totFrom, h1, h2, e1, e2]
    simp
theorem est_all {p : Nat → Bool} (h : ∀ x, p x = true) (L : Lv) : estL p L = tot L := by
  obtain ⟨h1, h2⟩ := sure_all h L 0
  unfold estL
  rw [h1, h2, tot_eq]
  simp
theorem parts_trim {p : Nat → Bool} : ∀ (M : Lv) (i : Nat), sureL p i (trim M) = sureL p i M ∧ cutS p i (trim M) = cutS p i M
  | [], _ => ⟨rfl, rfl⟩
  | l :: ls, i => by
    obtain ⟨h1, h2⟩ := parts_trim (p := p) ls (i + 1)
    rw [trim]
    split
    · rename_i h
      rw [h.2] at h1 h2
      show 0 = l.countP (sureP p) * 2 ^ i + sureL p (i + 1) ls ∧ 0 = l.countP (cutP p) * 2 ^ i + cutS p (i + 1) ls
      rw [← h1, ← h2, h.1]
      simp [sureL, cutS]
    · rw [sureL, cutS, sureL, cutS, h1, h2]
      exact ⟨rfl, rfl⟩
theorem parts_cut {p : Nat → Bool} {f w : Nat} : ∀ (L : Lv) (i : Nat), (∀ b ∈ allOf L, oldB b.2 f w = true → p b.1 = false ∧ p b.2 = false) → sureL p i (L.map (cutL f w)) = sureL p i L ∧ cutS p i (L.map (cutL f w)) = cutS p i L
  | [], _, _ => ⟨rfl, rfl⟩
  | l :: ls, i, h => by
    obtain ⟨h1, h2⟩ := parts_cut ls (i + 1) (fun b hb => h b (by rw [allOf]; exact List.mem_append_left _ hb))
    have key : ∀ q : Sp → Bool, (∀ b ∈ l, oldB b.2 f w = true → q b = false) → (cutL f w l).countP q = l.countP q := by
      intro q hq
      unfold cutL
      rw [List.countP_filter]
      refine List.countP_congr fun b hb => ?_
      cases ho : oldB b.2 f w with
      | true => simp [hq b hb ho]
      | false => simp
    have hm : ∀ b ∈ l, b ∈ allOf (l :: ls) := fun b hb => by rw [allOf]; exact List.mem_append_right _ hb
    rw [List.map_cons, sureL, cutS, sureL, cutS, h1, h2, key (sureP p) (fun b hb ho => (h b (hm b hb) ho).1), key (cutP p) (fun b hb ho => by unfold cutP; rw [(h b (hm b hb) ho).2]; simp)]
    exact ⟨rfl, rfl⟩
/-- What is dropped changes nothing, where nothing of it is within. -/
theorem parts_drop {p : Nat → Bool} (hp : Up p) {f w : Nat} {L : Lv} (ht : Turn (allOf L)) (h : ∀ x, oldB x f w = true → p x = false) : sureL p 0 (dropL f w L) = sureL p 0 L ∧ cutS p 0 (dropL f w L) = cutS p 0 L := by
  have hc := parts_cut (p := p) (f := f) (w := w) L 0 (fun b hb ho => by
    have h2 := h b.2 ho
    refine ⟨?_, h2⟩
    cases h1 : p b.1 with
    | false => rfl
    | true =>
      have := hp _ _ (ht.1 b hb) h1
      rw [h2] at this
      cases this)
  unfold dropL
  rw [(parts_trim _ 0).1, (parts_trim _ 0).2]
  exact hc

/-- Whether a tick is within. -/
def withB (tick span t : Nat) : Bool := decide (tick < t + span)
theorem with_up (tick span : Nat) : Up (withB tick span) := by
  intro a b h ha
  unfold withB at *
  rw [decide_eq_true_iff] at *
  omega

end Go.Proofs.Lh
end
section
/- What really came, deed by deed, and the units that a histogram stands for. -/
namespace Go.Proofs.Lh
open Go.Proofs.Lm (Sp)

/-- One deed: what came within is counted. -/
def exStep (k : Nat) (p : Nat → Bool) (s : (Nat × Lv) × Nat) (d : Sp) : (Nat × Lv) × Nat :=
  (stepP k s.1 d, if code s.1.2 (s.1.1 + d.1 % 1000) d.2 = 0 ∧ p (s.1.1 + d.1 % 1000) = true then s.2 + d.2 else s.2)
def exFold (k : Nat) (p : Nat → Bool) (ds : List Sp) (j : Nat) : (Nat × Lv) × Nat := (ds.take j).foldl (exStep k p) ((0, []), 0)
/-- How many units came within, of the first j deeds. -/
def exactN (k : Nat) (p : Nat → Bool) (ds : List Sp) (j : Nat) : Nat := (exFold k p ds j).2
theorem exFold_play (k : Nat) (p : Nat → Bool) (ds : List Sp) (j : Nat) : (exFold k p ds j).1 = play k ds j := by
  unfold exFold play
  generalize ds.take j = es
  suffices h : ∀ (es : List Sp) (s : (Nat × Lv) × Nat), (es.foldl (exStep k p) s).1 = es.foldl (stepP k) s.1 from h es _
  intro es
  induction es with
  | nil => intro s; rfl
  | cons e es ih => intro s; rw [List.foldl_cons, List.foldl_cons, ih]; rfl
theorem exact_zero (k : Nat) (p : Nat → Bool) (ds : List Sp) : exactN k p ds 0 = 0 := by simp [exactN, exFold]
theorem exact_succ (k : Nat) (p : Nat → Bool) (ds : List Sp) (j : Nat) (h : j < ds.length) :
    exactN k p ds (j + 1) = if code (play k ds j).2 ((play k ds j).1 + ds[j].1 % 1000) ds[j].2 = 0 ∧ p ((play k ds j).1 + ds[j].1 % 1000) = true then exactN k p ds j + ds[j].2 else exactN k p ds j := by
  have e := exFold_play k p ds j
  unfold exactN
  have : exFold k p ds (j + 1) = exStep k p (exFold k p ds j) ds[j] := by
    unfold exFold
    rw [List.take_succ_eq_append_getElem h, List.foldl_append]
    rfl
  rw [this, ← e]
  rfl
/-- The units. -/
theorem play_units (k : Nat) (p : Nat → Bool) (ds : List Sp) : ∀ j, j ≤ ds.length → ∃ us : List Nat, Rep 0 (play k ds j).2 us ∧ us.Pairwise (· ≤ ·) ∧ (∀ u ∈ us, u ≤ (play k ds j).1) ∧ us.countP p = exactN k p ds j
  | 0, _ => ⟨[], by rw [play_zero]; rfl, List.Pairwise.nil, by simp, by rw [exact_zero]; rfl⟩
  | j + 1, h => by
    obtain ⟨us, h1, h2, h3, h4⟩ := play_units k p ds j (by omega)
    rw [play_succ k ds j (by omega), step_tick, step_levs, exact_succ k p ds j (by omega)]
    generalize ds[j]'(by omega) = d at *
    obtain ⟨t, ht⟩ : ∃ t, (play k ds j).1 + d.1 % 1000 = t := ⟨_, rfl⟩
    rw [ht]
    by_cases hc : code (play k ds j).2 t d.2 = 0
    · rw [if_pos hc]
      refine ⟨us ++ List.replicate d.2 t, rep_addW k h1 t d.2, ?_, ?_, ?_⟩
      · rw [List.pairwise_append]
        refine ⟨h2, ?_, ?_⟩
        · rw [List.pairwise_replicate]
          exact .inr (Nat.le_refl _)
        · intro a ha b hb
          have := h3 a ha
          rw [List.eq_of_mem_replicate hb]
          omega
      · intro u hu
        rcases List.mem_append.1 hu with hu | hu
        · have := h3 u hu
          omega
        · rw [List.eq_of_mem_replicate hu]
          exact Nat.le_refl _
      · rw [List.countP_append, h4, List.countP_replicate]
        cases hp : p t with
        | true => rw [if_pos rfl, if_pos ⟨hc, rfl⟩]
        | false => rw [if_neg (by simp), if_neg (by simp)]; rfl
    · rw [if_neg hc, if_neg (fun h => hc h.1)]
      exact ⟨us, h1, h2, fun u hu => by have := h3 u hu; omega, h4⟩

/-- It is no more than all that there is. -/
theorem rep_len : ∀ {L : Lv} {i : Nat} {us : List Nat}, Rep i L us → us.length = totFrom i L
  | [], _, us, h => by rw [show us = [] from h]; rfl
  | l :: ls, i, us, ⟨uo, un, e, h1, h2⟩ => by
    rw [e, List.length_append, rep_len h1, seg_len i h2, totFrom]
    omega
theorem exact_le (k : Nat) (p : Nat → Bool) (ds : List Sp) (j : Nat) (h : j ≤ ds.length) : exactN k p ds j ≤ tot (play k ds j).2 := by
  obtain ⟨us, h1, _, _, h4⟩ := play_units k p ds j h
  rw [← h4, ← tot_eq, ← rep_len h1]
  exact List.countP_le_length
/-- The bound, and the parts, of what came. -/
theorem play_bound {k : Nat} (hk : 2 ≤ k) (hk1 : k ≤ 1024) {p : Nat → Bool} (hp : Up p) (ds : List Sp) (j : Nat) (h : j ≤ ds.length) :
    ((k - 1) * exactN k p ds j ≤ k * estL p (play k ds j).2 ∧ k * estL p (play k ds j).2 ≤ (k + 1) * exactN k p ds j) ∧ sureL p 0 (play k ds j).2 ≤ exactN k p ds j ∧ exactN k p ds j ≤ sureL p 0 (play k ds j).2 + cutS p 0 (play k ds j).2 := by
  obtain ⟨us, h1, h2, _, h4⟩ := play_units k p ds j h
  rw [← h4]
  exact ⟨(play_made hk hk1 ds j h).bound hp h1 h2, rep_count hp h1 h2⟩
/-- No more than all units is sure, or cut. -/
theorem parts_le (p : Nat → Bool) : ∀ (L : Lv) (i : Nat), sureL p i L + cutS p i L ≤ totFrom i L
  | [], _ => Nat.le_refl _
  | l :: ls, i => by
    have ih := parts_le p ls (i + 1)
    have h : l.countP (sureP p) + l.countP (cutP p) ≤ l.length := by
      induction l with
      | nil => simp
      | cons b l ihl =>
        rw [List.countP_cons, List.countP_cons, List.length_cons]
        unfold sureP cutP at *
        cases p b.1 <;> cases p b.2 <;> simp <;> omega
    have := Nat.mul_le_mul_right (2 ^ i) h
    rw [Nat.add_mul] at this
    rw [sureL, cutS, totFrom]
    omega

end Go.Proofs.Lh
end
