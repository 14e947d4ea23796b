/- What really came, deed by deed, and the units that a histogram stands for. · Plain mathematics of whether levels may be a histogram: what must be so; how many buckets there are; the bound. · Plain mathematics of histograms that are merged: units that are moved to a bucket's last tick, and the bound, merge by merge. · Plain mathematics of With: what it tells, lumps in turn, groups of one tick, how far a merge has come. -/
import Derived.Test.YthncmjimfkbofaaJ08
import Derived.Test.YthncmjimfkbofaaJ02
section
/- What really came, deed by deed, and the units that a histogram stands for. -/
namespace Go.Proofs.Lh
open Go.Proofs.Lm (Sp)

/-- One deed: what came within is counted. -/
def exStep (k : Nat) (p : Nat → Bool) (s : (Nat × Lv) × Nat) (d : Sp) : (Nat × Lv) × Nat :=
  (stepP k s.1 d, if code s.1.2 (s.1.1 + d.1 % 1000) d.2 = 0 ∧ p (s.1.1 + d.1 % 1000) = true then s.2 + d.2 else s.2)
def exFold (k : Nat) (p : Nat → Bool) (ds : List Sp) (j : Nat) : (Nat × Lv) × Nat := (ds.take j).foldl (exStep k p) ((0, []), 0)
/-- How many units came within, of the first j deeds. -/
def exactN (k : Nat) (p : Nat → Bool) (ds : List Sp) (j : Nat) : Nat := (exFold k p ds j).2
theorem exFold_play (k : Nat) (p : Nat → Bool) (ds : List Sp) (j : Nat) : (exFold k p ds j).1 = play k ds j := by
  unfold exFold play
  generalize ds.take j = es
  suffices h : ∀ (es : List Sp) (s : (Nat × Lv) × Nat), (es.foldl (exStep k p) s).1 = es.foldl (stepP k) s.1 from h es _
  intro es
  induction es with
  | nil => intro s; rfl
  | cons e es ih => intro s; rw [List.foldl_cons, List.foldl_cons, ih]; rfl
theorem exact_zero (k : Nat) (p : Nat → Bool) (ds : List Sp) : exactN k p ds 0 = 0 := by simp [exactN, exFold]
theorem exact_succ (k : Nat) (p : Nat → Bool) (ds : List Sp) (j : Nat) (h : j < ds.length) :
    exactN k p ds (j + 1) = if code (play k ds j).2 ((play k ds j).1 + ds[j].1 % 1000) ds[j].2 = 0 ∧ p ((play k ds j).1 + ds[j].1 % 1000) = true then exactN k p ds j + ds[j].2 else exactN k p ds j := by
  have e := exFold_play k p ds j
  unfold exactN
  have : exFold k p ds (j + 1) = exStep k p (exFold k p ds j) ds[j] := by
    unfold exFold
    rw [List.take_succ_eq_append_getElem h, List.foldl_append]
    rfl
  rw [this, ← e]
  rfl
/-- The units. -/
theorem play_units (k : Nat) (p : Nat → Bool) (ds : List Sp) : ∀ j, j ≤ ds.length → ∃ us : List Nat, Rep 0 (play k ds j).2 us ∧ us.Pairwise (· ≤ ·) ∧ (∀ u ∈ us, u ≤ (play k ds j).1) ∧ us.countP p = exactN k p ds j
  | 0, _ => ⟨[], by rw [play_zero]; rfl, List.Pairwise.nil, by simp, by rw [exact_zero]; rfl⟩
  | j + 1, h => by
    obtain ⟨us, h1, h2, h3, h4⟩ := play_units k p ds j (by omega)
    rw [play_succ k ds j (by omega), step_tick, step_levs, exact_succ k p ds j (by omega)]
    generalize ds[j]'(by omega) = d at *
    obtain ⟨t, ht⟩ : ∃ t, (play k ds j).1 + d.1 % 1000 = t := ⟨_, rfl⟩
    rw [ht]
    by_cases hc : code (play k ds j).2 t d.2 = 0
    · rw [if_pos hc]
      refine ⟨us ++ List.replicate d.2 t, rep_addW k h1 t d.2, ?_, ?_, ?_⟩
      · rw [List.pairwise_append]
        refine ⟨h2, ?_, ?_⟩
        · rw [List.pairwise_replicate]
          exact .inr (Nat.le_refl _)
        · intro a ha b hb
          have := h3 a ha
          rw [List.eq_of_mem_replicate hb]
          omega
      · intro u hu
        rcases List.mem_append.1 hu with hu | hu
        · have := h3 u hu
          omega
        · rw [List.eq_of_mem_replicate hu]
          exact Nat.le_refl _
      · rw [List.countP_append, h4, List.countP_replicate]
        cases hp : p t with
        | true => rw [if_pos rfl, if_pos ⟨hc, rfl⟩]
        | false => rw [if_neg (by simp), if_neg (by simp)]; rfl
    · rw [if_neg hc, if_neg (fun h => hc h.1)]
      exact ⟨us, h1, h2, fun u hu => by have := h3 u hu; omega, h4⟩

/-- It is no more than all that there is. -/
theorem rep_len : ∀ {L : Lv} {i : Nat} {us : List Nat}, Rep i L us → us.length = totFrom i L
  | [], _, us, h => by rw [show us = [] from h]; rfl
  | l :: ls, i, us, ⟨uo, un, e, h1, h2⟩ => by
    rw [e, List.length_append, rep_len h1, seg_len i h2, totFrom]
    omega
theorem exact_le (k : Nat) (p : Nat → Bool) (ds : List Sp) (j : Nat) (h : j ≤ ds.length) : exactN k p ds j ≤ tot (play k ds j).2 := by
  obtain ⟨us, h1, _, _, h4⟩ := play_units k p ds j h
  rw [← h4, ← tot_eq, ← rep_len h1]
  exact List.countP_le_length
/-- The bound, and the parts, of what came. -/
theorem play_bound {k : Nat} (hk : 2 ≤ k) (hk1 : k ≤ 1024) {p : Nat → Bool} (hp : Up p) (ds : List Sp) (j : Nat) (h : j ≤ ds.length) :
    ((k - 1) * exactN k p ds j ≤ k * estL p (play k ds j).2 ∧ k * estL p (play k ds j).2 ≤ (k + 1) * exactN k p ds j) ∧ sureL p 0 (play k ds j).2 ≤ exactN k p ds j ∧ exactN k p ds j ≤ sureL p 0 (play k ds j).2 + cutS p 0 (play k ds j).2 := by
  obtain ⟨us, h1, h2, _, h4⟩ := play_units k p ds j h
  rw [← h4]
  exact ⟨(play_made hk hk1 ds j h).bound hp h1 h2, rep_count hp h1 h2⟩
/-- No more than all units is sure, or cut. -/
theorem parts_le (p : Nat → Bool) : ∀ (L : Lv) (i : Nat), sureL p i L + cutS p i L ≤ totFrom i L
  | [], _ => Nat.le_refl _
  | l :: ls, i => by
    have ih := parts_le p ls (i + 1)
    have h : l.countP (sureP p) + l.countP (cutP p) ≤ l.length := by
      induction l with
      | nil => simp
      | cons b l ihl =>
        rw [List.countP_cons, List.countP_cons, List.length_cons]
        unfold sureP cutP at *
        cases p b.1 <;> cases p b.2 <;> simp <;> omega
    have := Nat.mul_le_mul_right (2 ^ i) h
    rw [Nat.add_mul] at this
    rw [sureL, cutS, totFrom]
    omega

end Go.Proofs.Lh
end
section
/- Plain mathematics of whether levels may be a histogram: what must be so; how many buckets there are; the bound. -/
namespace Go.Proofs.Lh
open Go.Proofs.Lm (Sp Turn)

/-! ### What must be so -/

/-- The level i has as many buckets as it may. -/
def levOk (k : Nat) (ls : Lv) (i : Nat) : Bool := decide (1 ≤ (lev ls i).length ∧ (lev ls i).length ≤ rm k i ∧ (i + 1 = ls.length ∨ rm k i - 1 ≤ (lev ls i).length))
def shapedB (k : Nat) (ls : Lv) : Bool := (List.range ls.length).all (levOk k ls) && decide (ls.length ≤ 52)
/-- In turn, from the tick a on. -/
def inTurn : Nat → List Sp → Bool
  | _, [] => true
  | a, b :: l => decide (b.1 ≤ b.2 ∧ a ≤ b.1 ∧ b.2 ≤ 9223372036854775807) && inTurn b.2 l
def flatB (ls : Lv) : Bool := (lev ls 0).all fun x => x.1 == x.2
def goodB (k : Nat) (ls : Lv) : Bool := shapedB k ls && (inTurn 0 (allOf ls) && flatB ls) && decide (tot ls ≤ 4503599627370496)
/-- What Hist answers. -/
def chk (k g : Int) (ls : Lv) : Nat := if (2 ≤ k ∧ k ≤ 1024) ∧ 0 ≤ g ∧ g ≤ 4 then (if goodB k.toNat ls = true then 0 else 2) else 9

theorem turn_in : ∀ {xs : List Sp} {a : Nat}, Turn xs → (∀ x ∈ xs, a ≤ x.1 ∧ x.2 ≤ 9223372036854775807) → inTurn a xs = true
  | [], _, _, _ => rfl
  | b :: l, a, h, hx => by
    have hb := hx b List.mem_cons_self
    have h1 := h.1 b List.mem_cons_self
    have h2 := List.pairwise_cons.1 h.2
    rw [inTurn, turn_in (turn_sub h (List.sublist_cons_self b l)) (fun x hxl => ⟨h2.1 x hxl, (hx x (List.mem_cons_of_mem _ hxl)).2⟩)]
    simp
    omega
theorem in_turn : ∀ {xs : List Sp} {a : Nat}, inTurn a xs = true → ∀ x ∈ xs, x.1 ≤ x.2 ∧ x.2 ≤ 9223372036854775807
  | [], _, _ => by simp
  | b :: l, a, h => by
    rw [inTurn, Bool.and_eq_true, decide_eq_true_iff] at h
    intro x hx
    rcases List.mem_cons.1 hx with rfl | hx
    · omega
    · exact in_turn h.2 x hx
theorem inTurn_app : ∀ {xs ys : List Sp} {a : Nat}, inTurn a (xs ++ ys) = (inTurn a xs && inTurn ((xs.getLast?.map (·.2)).getD a) ys)
  | [], ys, a => by simp [inTurn]
  | b :: l, ys, a => by
    rw [List.cons_append, inTurn, inTurn, inTurn_app (xs := l), Bool.and_assoc]
    congr 2
    cases l with
    | nil => simp
    | cons c l => simp [List.getLast?_cons]
theorem shaped_of {k : Nat} (hk : 1 ≤ k) {ls : Lv} (hs : Shape k 0 ls) (hl : ls.length ≤ 52) : shapedB k ls = true := by
  unfold shapedB
  rw [Bool.and_eq_true, decide_eq_true_iff]
  refine ⟨List.all_eq_true.2 fun i hi => ?_, hl⟩
  have hi := List.mem_range.1 hi
  obtain ⟨h1, h2, h3⟩ := shape_at hk i hs hi
  rw [Nat.zero_add] at h2 h3
  unfold levOk
  rw [decide_eq_true_iff]
  refine ⟨h1, h2, ?_⟩
  by_cases e : i + 1 = ls.length
  · exact .inl e
  · exact .inr (h3 e)
theorem flat_of {ls : Lv} (h : flat ls) : flatB ls = true := by
  unfold flatB
  rw [List.all_eq_true]
  intro x hx
  simpa using flat_at h x hx
theorem shape_more {k : Nat} (hk : 1 ≤ k) {ls : Lv} {i : Nat} (h : Shape k i ls) (h2 : 2 ≤ ls.length) : 2 ^ (ls.length - 1) + 1 ≤ tot ls := by
  match ls, h, h2 with
  | [], _, h2 => simp at h2
  | [_], _, h2 => simp at h2
  | l :: m :: r, h, _ =>
    have h1 := shape_head hk h
    have h3 := shape_many hk h.2.2 (by simp)
    rw [tot, List.length_cons, show (m :: r).length + 1 - 1 = (m :: r).length - 1 + 1 by simp, Nat.pow_succ]
    omega
theorem Made.len52 {k : Nat} {ls : Lv} (h : Made k ls) : ls.length ≤ 52 := by
  rcases Nat.lt_or_ge 52 ls.length with h1 | h1
  · have h2 := shape_more (by have := h.k2; omega) h.ok.shape (by omega)
    have h3 : 2 ^ 52 ≤ 2 ^ (ls.length - 1) := Nat.pow_le_pow_right (by omega) (by omega)
    have := h.small
    omega
  · exact h1
/-- What was made may be. -/
theorem Made.good {k : Nat} {ls : Lv} (h : Made k ls) (hm : ∀ x ∈ allOf ls, x.2 ≤ 9223372036854775807) : goodB k ls = true := by
  unfold goodB
  rw [shaped_of (by have := h.k2; omega) h.ok.shape h.len52, turn_in h.ok.turn (fun x hx => ⟨Nat.zero_le _, hm x hx⟩), flat_of h.ok.flat]
  simpa using h.small
theorem Made.chk {k : Nat} {ls : Lv} (h : Made k ls) (hm : ∀ x ∈ allOf ls, x.2 ≤ 9223372036854775807) : Lh.chk (k : Int) 0 ls = 0 := by
  have h1 := h.k2
  have h2 := h.k1
  unfold Lh.chk
  rw [if_pos ⟨⟨by omega, by omega⟩, by omega, by omega⟩, Int.toNat_natCast, h.good hm, if_pos rfl]
theorem chk_bad {k : Nat} {ls : Lv} (h2 : 2 ≤ k) (h1 : k ≤ 1024) (h : goodB k ls = false) : Lh.chk (k : Int) 0 ls = 2 := by
  unfold Lh.chk
  rw [if_pos ⟨⟨by omega, by omega⟩, by omega, by omega⟩, Int.toNat_natCast, h, if_neg (by simp)]
theorem all_drop (f w : Nat) (L : Lv) : allOf (dropL f w L) = cutL f w (allOf L) := by
  unfold dropL
  rw [trim_all, all_cut]
/-- No tick is later than the last one that came. -/
theorem play_all {k : Nat} (hk : 2 ≤ k) (hk1 : k ≤ 1024) (ds : List Sp) (j : Nat) (h : j ≤ ds.length) : ∀ x ∈ allOf (play k ds j).2, x.2 ≤ 1000 * j := by
  intro x hx
  have hm := play_made hk hk1 ds j h
  have ht := play_tick k ds j h
  have hp := play_last k hk hk1 ds j h
  cases hl : lastOf (play k ds j).2 with
  | none =>
    exfalso
    cases hL : (play k ds j).2 with
    | nil => rw [hL] at hx; cases hx
    | cons l ls =>
      rw [hL] at hl hm
      have h1 := shape_head (by omega) hm.ok.shape
      cases l with
      | nil => simp at h1
      | cons b l => simp [lastOf] at hl
  | some last =>
    have h1 := all_le hm.ok.turn hl x hx
    have h2 := hp last hl
    omega

/-! ### What breaks it -/

theorem good_not {k : Nat} {ls : Lv} (h : shapedB k ls = false ∨ inTurn 0 (allOf ls) = false) : goodB k ls = false := by
  unfold goodB
  rcases h with h | h <;> simp [h]
theorem turn_not {ls : Lv} {x : Sp} (hx : x ∈ allOf ls) (h : x.2 < x.1 ∨ 9223372036854775807 < x.2) : inTurn 0 (allOf ls) = false := by
  cases hb : inTurn 0 (allOf ls) with
  | false => rfl
  | true =>
    have := in_turn hb x hx
    omega
theorem empty_not (k : Nat) (L : Lv) : shapedB k (L ++ [[]]) = false := by
  unfold shapedB
  rw [Bool.and_eq_false_iff]
  left
  rw [List.all_eq_false]
  refine ⟨L.length, by simp, ?_⟩
  unfold levOk
  have : lev (L ++ [[]]) L.length = [] := by simp [lev]
  rw [this]
  simp

/-- Without its oldest bucket. -/
def oldOf (L : Lv) : Lv := if (lev L (L.length - 1)).length ≤ 1 then L.take (L.length - 1) else L.take (L.length - 1) ++ [(lev L (L.length - 1)).drop 1]
theorem shape_front {k : Nat} (hk : 1 ≤ k) : ∀ {A : Lv} {x : List Sp} {i : Nat}, Shape k i (A ++ [x]) → Shape k i A
  | [], _, _, _ => trivial
  | [a], x, i, h => by
    have h1 : rm k i - 1 ≤ a.length ∧ a.length ≤ rm k i ∧ _ := h
    have h2 := rm_two k i hk
    exact ⟨by omega, h1.2.1⟩
  | a :: b :: A, x, i, h => by
    have h1 : rm k i - 1 ≤ a.length ∧ a.length ≤ rm k i ∧ Shape k (i + 1) (b :: A ++ [x]) := h
    exact ⟨h1.1, h1.2.1, shape_front hk h1.2.2⟩
theorem shape_less {k : Nat} : ∀ {A : Lv} {x y : List Sp} {i : Nat}, Shape k i (A ++ [x]) → 1 ≤ y.length → y.length ≤ x.length → Shape k i (A ++ [y])
  | [], x, y, i, h, h1, h2 => by
    have h3 : 1 ≤ x.length ∧ x.length ≤ rm k i := h
    exact ⟨h1, by omega⟩
  | [a], x, y, i, h, h1, h2 => by
    have h3 : rm k i - 1 ≤ a.length ∧ a.length ≤ rm k i ∧ Shape k (i + 1) [x] := h
    exact ⟨h3.1, h3.2.1, shape_less (A := []) h3.2.2 h1 h2⟩
  | a :: b :: A, x, y, i, h, h1, h2 => by
    have h3 : rm k i - 1 ≤ a.length ∧ a.length ≤ rm k i ∧ Shape k (i + 1) (b :: A ++ [x]) := h
    exact ⟨h3.1, h3.2.1, shape_less h3.2.2 h1 h2⟩
theorem tot_snoc : ∀ (A : Lv) (x : List Sp), tot (A ++ [x]) = tot A + x.length * 2 ^ A.length
  | [], x => by simp [tot]
  | a :: A, x => by
    rw [List.cons_append, tot, tot, tot_snoc A x, List.length_cons, Nat.pow_succ, ← Nat.mul_assoc]
    omega
theorem all_snoc : ∀ (A : Lv) (x : List Sp), allOf (A ++ [x]) = x ++ allOf A
  | [], x => by simp [allOf]
  | a :: A, x => by rw [List.cons_append, allOf, allOf, all_snoc A x, List.append_assoc]
theorem snoc_lev {L : Lv} (h : L ≠ []) : L = L.take (L.length - 1) ++ [lev L (L.length - 1)] := by
  have hl : L.length - 1 < L.length := by
    have := List.length_pos_iff.2 h
    omega
  rw [lev_lt hl, ← List.take_succ_eq_append_getElem hl, show L.length - 1 + 1 = L.length by omega, List.take_length]
theorem flat_front {A : Lv} {x : List Sp} (h : flat (A ++ [x])) : flat A := by
  cases A with
  | nil => trivial
  | cons a A => exact h
theorem flat_less {A : Lv} {x y : List Sp} (h : flat (A ++ [x])) (hy : ∀ z ∈ y, z ∈ x) : flat (A ++ [y]) := by
  cases A with
  | nil => exact fun z hz => h z (hy z hz)
  | cons a A => exact h
theorem Made.old {k : Nat} {L : Lv} (h : Made k L) (hn : L ≠ []) : Made k (oldOf L) ∧ ∀ x ∈ allOf (oldOf L), x ∈ allOf L := by
  have e := snoc_lev hn
  obtain ⟨A, hA⟩ : ∃ A, L.take (L.length - 1) = A := ⟨_, rfl⟩
  obtain ⟨x, hx⟩ : ∃ x, Lh.lev L (L.length - 1) = x := ⟨_, rfl⟩
  rw [hA, hx] at e
  unfold oldOf
  rw [hA, hx]
  have hs := h.ok.shape
  have ht := h.ok.turn
  have hf := h.ok.flat
  have htot := h.small
  have hk := h.k2
  rw [e] at hs ht hf htot
  rw [e, all_snoc]
  rw [all_snoc] at ht
  rw [tot_snoc] at htot
  split
  · exact ⟨⟨h.k2, h.k1, ⟨shape_front (by omega) hs, turn_sub ht (List.sublist_append_right x _), flat_front hf⟩, by omega⟩, fun y hy => List.mem_append_right _ hy⟩
  · rename_i hl
    have hd : (x.drop 1).Sublist x := List.drop_sublist 1 x
    have hdl : (x.drop 1).length = x.length - 1 := by simp
    refine ⟨⟨h.k2, h.k1, ⟨shape_less hs (by omega) (by omega), ?_, flat_less hf fun z hz => hd.subset hz⟩, ?_⟩, fun y hy => ?_⟩
    · rw [all_snoc]
      exact turn_sub ht (hd.append (List.Sublist.refl _))
    · rw [tot_snoc]
      have := Nat.mul_le_mul_right (2 ^ A.length) (show (x.drop 1).length ≤ x.length by omega)
      omega
    · rw [all_snoc] at hy
      rcases List.mem_append.1 hy with hy | hy
      · exact List.mem_append_left _ (hd.subset hy)
      · exact List.mem_append_right _ hy

/-! ### How many buckets there are, and the bound -/

def cnt : Lv → Nat
  | [] => 0
  | l :: ls => l.length + cnt ls
theorem cnt_app : ∀ a b : Lv, cnt (a ++ b) = cnt a + cnt b
  | [], b => by simp [cnt]
  | l :: a, b => by rw [List.cons_append, cnt, cnt, cnt_app a b]; omega
theorem cnt_take {ls : Lv} {i : Nat} (h : i < ls.length) : cnt (ls.take (i + 1)) = cnt (ls.take i) + ls[i].length := by
  rw [List.take_succ_eq_append_getElem h, cnt_app]
  simp [cnt]
theorem cnt_few {k : Nat} (hk : 1 ≤ k) : ∀ {ls : Lv} {i : Nat}, Few k i ls → cnt ls ≤ (k + 1) * ls.length
  | [], _, _ => by simp [cnt]
  | l :: ls, i, h => by
    have h1 : l.length ≤ rm k i := h.1
    have h2 := cnt_few hk h.2
    have h3 : rm k i ≤ k + 1 := by unfold rm; split <;> omega
    rw [cnt, List.length_cons, Nat.mul_add]
    omega

/-- How many binary digits a number has. -/
def digs (n : Nat) : Nat := if h : n = 0 then 0 else 1 + digs (n / 2)
termination_by n
theorem digs_zero : digs 0 = 0 := by rw [digs]; simp
theorem digs_pos {n : Nat} (h : n ≠ 0) : digs n = 1 + digs (n / 2) := by rw [digs, dif_neg h]
theorem digs_mono : ∀ (a b : Nat), a ≤ b → digs a ≤ digs b := by
  intro a
  induction a using Nat.strongRecOn with
  | _ a ih =>
    intro b h
    by_cases ha : a = 0
    · rw [ha, digs_zero]; exact Nat.zero_le _
    · have := ih (a / 2) (by omega) (b / 2) (by omega)
      rw [digs_pos ha, digs_pos (n := b) (by omega)]
      omega
theorem digs_two {n : Nat} (h : n ≠ 0) : digs (2 * n) = digs n + 1 := by
  rw [digs_pos (by omega), show 2 * n / 2 = n by omega]
  omega
theorem digs_pow : ∀ m : Nat, digs (2 ^ m) = m + 1
  | 0 => by rw [Nat.pow_zero, digs_pos (by omega), show 1 / 2 = 0 by omega, digs_zero]
  | m + 1 => by rw [Nat.pow_succ, Nat.mul_comm, digs_two (by have := Nat.two_pow_pos m; omega), digs_pow m]
theorem digs_le : ∀ (m n : Nat), n < 2 ^ m → digs n ≤ m
  | 0, n, h => by rw [show n = 0 by simp at h; omega, digs_zero]; exact Nat.le_refl _
  | m + 1, n, h => by
    by_cases hn : n = 0
    · rw [hn, digs_zero]; exact Nat.zero_le _
    · rw [Nat.pow_succ] at h
      have := digs_le m (n / 2) (by omega)
      rw [digs_pos hn]
      omega
theorem pow_digs {m n : Nat} (h : 2 ^ m ≤ n) : m + 1 ≤ digs n := by
  have := digs_mono _ _ h
  rw [digs_pow] at this
  exact this
/-- The bound. -/
def boundN (k g : Int) (n : Nat) : Nat := if n ≠ 0 ∧ (2 ≤ k ∧ k ≤ 1024) ∧ 0 ≤ g ∧ g ≤ 4 then (k.toNat + 1) * (digs n + g.toNat) else 0

theorem cut_last {p : Nat → Bool} (hp : Up p) {k : Nat} (hk : 1 ≤ k) : ∀ {D : Lv} {i : Nat}, Shape k i D → Turn (allOf D) → (∀ b ∈ allOf D, p b.2 = true) → D ≠ [] → cutS p i D = 0 ∨ 2 ^ (i + D.length - 1) ≤ cutS p i D
  | [], _, _, _, _, h => absurd rfl h
  | [l], i, _, _, _, _ => by
    rw [cutS, cutS, Nat.add_zero, List.length_singleton, show i + 1 - 1 = i by omega]
    rcases Nat.eq_zero_or_pos (l.countP (cutP p)) with e | e
    · left; rw [e, Nat.zero_mul]
    · right; exact Nat.le_mul_of_pos_left _ e
  | l :: m :: r, i, hs, ht, hb, _ => by
    have htt := ht
    rw [allOf] at htt
    obtain ⟨t1, t2, t3⟩ := turn_app.1 htt
    have hs2 := hs.2.2
    have hm := shape_head hk hs2
    obtain ⟨a, ha⟩ : ∃ a, a ∈ m := by
      cases m with
      | nil => simp at hm
      | cons a m => exact ⟨a, List.mem_cons_self⟩
    have ha2 : a ∈ allOf (m :: r) := by rw [allOf]; exact List.mem_append_right _ ha
    have hpa := hb a (by rw [allOf]; exact List.mem_append_left _ ha2)
    obtain ⟨_, e2⟩ := later_sure hp hpa (fun b hb' => t3 a ha2 b hb')
    have ih := cut_last hp hk hs2 t1 (fun b hb' => hb b (by rw [allOf]; exact List.mem_append_left _ hb')) (by simp)
    rw [cutS, e2, Nat.zero_mul, Nat.zero_add]
    rw [show i + (l :: m :: r).length - 1 = i + 1 + (m :: r).length - 1 by simp; omega]
    exact ih
theorem parts_all {p : Nat → Bool} : ∀ {D : Lv} {i : Nat}, (∀ b ∈ allOf D, p b.2 = true) → sureL p i D + cutS p i D = totFrom i D
  | [], _, _ => rfl
  | l :: ls, i, hb => by
    have ih := parts_all (D := ls) (i := i + 1) (fun b h => hb b (by rw [allOf]; exact List.mem_append_left _ h))
    have h : l.countP (sureP p) + l.countP (cutP p) = l.length := by
      have hl : ∀ b ∈ l, p b.2 = true := fun b h => hb b (by rw [allOf]; exact List.mem_append_right _ h)
      clear ih hb
      induction l with
      | nil => simp
      | cons b l ihl =>
        have h1 := hl b List.mem_cons_self
        have h2 := ihl fun c hc => hl c (List.mem_cons_of_mem _ hc)
        rw [List.countP_cons, List.countP_cons, List.length_cons]
        unfold sureP cutP at *
        rw [h1]
        cases p b.1 <;> simp <;> omega
    rw [sureL, cutS, totFrom, ← ih, ← h, Nat.add_mul]
    omega
/-- What isn't old. -/
def newB (f w t : Nat) : Bool := !oldB t f w
theorem new_up (f w : Nat) : Up (newB f w) := by
  intro a b h ha
  unfold newB oldB at *
  simp at *
  omega
/-- SMALL: the levels that are left are no more than the digits of what came and isn't old. -/
theorem Made.few_left {k : Nat} {L : Lv} (h : Made k L) (f w : Nat) {us : List Nat} (hr : Rep 0 L us) (hs : us.Pairwise (· ≤ ·)) (hn : dropL f w L ≠ []) : 2 ^ ((dropL f w L).length - 1) ≤ us.countP (newB f w) := by
  have hp := new_up f w
  have hd := h.drop f w
  have hk := h.k2
  have h1 := (rep_count hp hr hs).1
  have h2 := (parts_drop hp (f := f) (w := w) h.ok.turn (fun x hx => by unfold newB; rw [hx]; rfl)).1
  rw [← h2] at h1
  have hb : ∀ b ∈ allOf (dropL f w L), newB f w b.2 = true := by
    intro b hb
    rw [all_drop] at hb
    unfold cutL at hb
    exact (List.mem_filter.1 hb).2
  have h3 := parts_all (i := 0) hb
  rw [tot_eq] at h3
  have h4 := shape_many (by omega) hd.ok.shape hn
  have h5 := (hd.cut hp).1
  rcases cut_last hp (by omega) hd.ok.shape hd.ok.turn hb hn with e | e
  · omega
  · rw [Nat.zero_add] at e
    generalize cutS (newB f w) 0 (dropL f w L) = c at *
    generalize sureL (newB f w) 0 (dropL f w L) = s at *
    have : 2 * c ≤ k * c := Nat.mul_le_mul_right _ hk
    omega
theorem Made.small_left {k : Nat} {L : Lv} (h : Made k L) (f w : Nat) {us : List Nat} (hr : Rep 0 L us) (hs : us.Pairwise (· ≤ ·)) : cnt (dropL f w L) ≤ boundN k 0 (us.countP (newB f w)) ∧ (us.countP (newB f w) = 0 → cnt (dropL f w L) = 0) := by
  have hk := h.k2
  have hk1 := h.k1
  by_cases hn : dropL f w L = []
  · rw [hn]
    exact ⟨Nat.zero_le _, fun _ => rfl⟩
  · have h1 := h.few_left f w hr hs hn
    have h2 := cnt_few (by omega) (h.drop f w).few
    have h3 := pow_digs h1
    have hl := List.length_pos_iff.2 hn
    have h4 : 0 < us.countP (newB f w) := Nat.lt_of_lt_of_le (Nat.two_pow_pos _) h1
    refine ⟨?_, fun e => by omega⟩
    unfold boundN
    rw [if_pos ⟨by omega, ⟨by omega, by omega⟩, by omega, by omega⟩, Int.toNat_natCast]
    refine Nat.le_trans h2 (Nat.mul_le_mul_left _ ?_)
    simp
    omega
theorem play_small {k : Nat} (hk : 2 ≤ k) (hk1 : k ≤ 1024) (f w : Nat) (ds : List Sp) (j : Nat) (h : j ≤ ds.length) :
    cnt (dropL f w (play k ds j).2) ≤ boundN k 0 (exactN k (newB f w) ds j) ∧ (exactN k (newB f w) ds j = 0 → cnt (dropL f w (play k ds j).2) = 0) := by
  obtain ⟨us, h1, h2, _, h4⟩ := play_units k (newB f w) ds j h
  rw [← h4]
  exact (play_made hk hk1 ds j h).small_left f w h1 h2

/-! ### The bound grows -/

theorem bound_mono (k g : Int) {a b : Nat} (h : a ≤ b) : boundN k g a ≤ boundN k g b := by
  unfold boundN
  have := digs_mono a b h
  split
  · rename_i h1
    rw [if_pos ⟨by omega, h1.2⟩]
    exact Nat.mul_le_mul_left _ (by omega)
  · exact Nat.zero_le _
theorem bound_two {k : Nat} (hk : 2 ≤ k) (hk1 : k ≤ 1024) {g : Nat} (hg : g ≤ 4) {n : Nat} (hn : n ≠ 0) : boundN k g (2 * n) = boundN k g n + k + 1 := by
  unfold boundN
  rw [if_pos ⟨by omega, ⟨by omega, by omega⟩, by omega, by omega⟩, if_pos ⟨hn, ⟨by omega, by omega⟩, by omega, by omega⟩, digs_two hn, Int.toNat_natCast, Int.toNat_natCast, show digs n + 1 + g = digs n + g + 1 by omega, Nat.mul_add]
  omega
theorem bound_gen {k : Nat} (hk : 2 ≤ k) (hk1 : k ≤ 1024) {g : Nat} (hg : g + 1 ≤ 4) {n : Nat} (hn : n ≠ 0) : boundN k ((g + 1 : Nat) : Int) n = boundN k g n + k + 1 := by
  unfold boundN
  rw [if_pos ⟨hn, ⟨by omega, by omega⟩, by omega, by omega⟩, if_pos ⟨hn, ⟨by omega, by omega⟩, by omega, by omega⟩, Int.toNat_natCast, Int.toNat_natCast, Int.toNat_natCast, ← Nat.add_assoc, Nat.mul_add]
  omega
theorem bound_none (k g : Int) : boundN k g 0 = 0 := by simp [boundN]

end Go.Proofs.Lh
end
section
/- Plain mathematics of histograms that are merged: units that are moved to a bucket's last tick, and the bound, merge by merge. -/
namespace Go.Proofs.Lh
open Go.Proofs.Lm (Sp Turn)

/-! ### The histogram of units that come one by one -/

def histOf (k : Nat) (us : List Nat) : Lv := addL k 0 [] (us.map fun t => (t, t))
theorem histOf_app (k : Nat) (a b : List Nat) : histOf k (a ++ b) = addL k 0 (histOf k a) (b.map fun t => (t, t)) := by
  unfold histOf
  rw [List.map_append, addL_app]
theorem histOf_add (k : Nat) (us : List Nat) (t n : Nat) : addW k (histOf k us) t n = histOf k (us ++ List.replicate n t) := by
  rw [histOf_app, List.map_replicate]
  rfl
theorem histOf_nil (k : Nat) : histOf k [] = [] := by
  unfold histOf
  rw [List.map_nil, addL, newL_nil]
theorem seg_map : ∀ us : List Nat, Seg 0 (us.map fun t => (t, t)) us
  | [] => rfl
  | t :: us => ⟨[t], us, rfl, rfl, rfl, rfl, seg_map us⟩
theorem rep_histOf (k : Nat) (us : List Nat) : Rep 0 (histOf k us) us := by
  have := rep_add k (ls := []) (i := 0) (uo := []) rfl (seg_map us)
  exact this
theorem tot_histOf (k : Nat) (us : List Nat) : tot (histOf k us) = us.length := by
  unfold histOf
  rw [addL_tot]
  simp [tot]
theorem flat_histOf (k : Nat) (us : List Nat) : flat (histOf k us) := by
  suffices h : ∀ n (us : List Nat), us.length = n → flat (histOf k us) from h _ us rfl
  intro n
  induction n with
  | zero =>
    intro us h
    rw [List.eq_nil_of_length_eq_zero h, histOf_nil]
    trivial
  | succ n ih =>
    intro us h
    obtain ⟨v, t, rfl⟩ : ∃ v t, us = v ++ [t] := by
      rcases List.eq_nil_or_concat us with e | ⟨v, t, e⟩
      · rw [e] at h; simp at h
      · exact ⟨v, t, by rw [e]; simp⟩
    have := addW_flat k (histOf k v) t 1 (ih v (by simpa using h))
    rw [histOf_add] at this
    exact this
theorem made_histOf {k : Nat} (h2 : 2 ≤ k) (h1 : k ≤ 1024) {us : List Nat} (hs : us.Pairwise (· ≤ ·)) (hl : us.length ≤ 4503599627370496) : Made k (histOf k us) := by
  refine ⟨h2, h1, ⟨addL_shape k (by omega) [] 0 _ trivial, ?_, flat_histOf k us⟩, by rw [tot_histOf]; exact hl⟩
  have ht : Turn (us.map fun t => (t, t)) := by
    refine ⟨fun x hx => ?_, ?_⟩
    · obtain ⟨t, _, rfl⟩ := List.mem_map.1 hx
      exact Nat.le_refl _
    · rw [List.pairwise_map]
      exact hs
  have := addL_turn k [] 0 (us.map fun t => (t, t)) [] (by simpa [allOf] using ht)
  rw [List.append_nil] at this
  exact this

/-! ### Lumps: units of one tick -/

def unitsOf (ls : List Sp) : List Nat := ls.flatMap fun x => List.replicate x.2 x.1
theorem units_app (a b : List Sp) : unitsOf (a ++ b) = unitsOf a ++ unitsOf b := by simp [unitsOf]
theorem units_snoc (a : List Sp) (x : Sp) : unitsOf (a ++ [x]) = unitsOf a ++ List.replicate x.2 x.1 := by simp [unitsOf]
/-- Lumps that come one behind the other. -/
theorem fold_lumps (k : Nat) (ls : List Sp) : ls.foldl (fun L x => addW k L x.1 x.2) [] = histOf k (unitsOf ls) := by
  suffices h : ∀ (ls : List Sp) (us : List Nat), ls.foldl (fun L x => addW k L x.1 x.2) (histOf k us) = histOf k (us ++ unitsOf ls) by
    have := h ls []
    rw [histOf_nil, List.nil_append] at this
    exact this
  intro ls
  induction ls with
  | nil => intro us; simp [unitsOf]
  | cons x ls ih =>
    intro us
    rw [List.foldl_cons, histOf_add, ih, List.append_assoc]
    rfl
theorem units_sorted {ls : List Sp} (h : ls.Pairwise fun x y => x.1 ≤ y.1) : (unitsOf ls).Pairwise (· ≤ ·) := by
  induction ls with
  | nil => exact List.Pairwise.nil
  | cons x ls ih =>
    have hp := List.pairwise_cons.1 h
    have e : unitsOf (x :: ls) = List.replicate x.2 x.1 ++ unitsOf ls := rfl
    rw [e, List.pairwise_append]
    refine ⟨?_, ih hp.2, fun a ha b hb => ?_⟩
    · rw [List.pairwise_replicate]
      exact .inr (Nat.le_refl _)
    · rw [List.eq_of_mem_replicate ha]
      obtain ⟨y, hy, hb⟩ := List.mem_flatMap.1 hb
      rw [List.eq_of_mem_replicate hb]
      exact hp.1 y hy
theorem units_perm {a b : List Sp} (h : a.Perm b) : (unitsOf a).Perm (unitsOf b) := h.flatMap_right _
/-- In whatever turn lumps of one tick come, it is the same. -/
theorem units_eq {a b : List Sp} (h : a.Perm b) (ha : a.Pairwise fun x y => x.1 ≤ y.1) (hb : b.Pairwise fun x y => x.1 ≤ y.1) : unitsOf a = unitsOf b :=
  List.Perm.eq_of_pairwise (le := (· ≤ ·)) (fun _ _ _ _ h1 h2 => Nat.le_antisymm h1 h2) (units_sorted ha) (units_sorted hb) (units_perm h)
theorem hist_perm (k : Nat) {a b : List Sp} (h : a.Perm b) (ha : a.Pairwise fun x y => x.1 ≤ y.1) (hb : b.Pairwise fun x y => x.1 ≤ y.1) : a.foldl (fun L x => addW k L x.1 x.2) [] = b.foldl (fun L x => addW k L x.1 x.2) [] := by
  rw [fold_lumps, fold_lumps, units_eq h ha hb]

/-- A histogram's buckets, each as a lump of its last tick, the oldest one first. -/
def lumpsOf : Nat → Lv → List Sp
  | _, [] => []
  | i, l :: ls => lumpsOf (i + 1) ls ++ l.map fun b => (b.2, 2 ^ i)
theorem map_count {p : Nat → Bool} (hp : Up p) (i : Nat) : ∀ {l : List Sp}, (∀ b ∈ l, b.1 ≤ b.2) → (unitsOf (l.map fun b => (b.2, 2 ^ i))).countP p = l.countP (sureP p) * 2 ^ i + l.countP (cutP p) * 2 ^ i
  | [], _ => by simp [unitsOf]
  | b :: l, h => by
    have ih := map_count hp i (l := l) fun c hc => h c (List.mem_cons_of_mem _ hc)
    have e : unitsOf ((b :: l).map fun b => (b.2, 2 ^ i)) = List.replicate (2 ^ i) b.2 ++ unitsOf (l.map fun b => (b.2, 2 ^ i)) := rfl
    have hb := h b List.mem_cons_self
    rw [e, List.countP_append, ih, List.countP_replicate, List.countP_cons, List.countP_cons]
    unfold sureP cutP
    cases h1 : p b.1 with
    | true =>
      have h2 := hp _ _ hb h1
      rw [h2]
      simp [Nat.add_mul]
      omega
    | false =>
      cases h2 : p b.2 with
      | true =>
        simp [Nat.add_mul]
        omega
      | false => simp
theorem lumps_count {p : Nat → Bool} (hp : Up p) : ∀ {L : Lv} {i : Nat}, (∀ b ∈ allOf L, b.1 ≤ b.2) → (unitsOf (lumpsOf i L)).countP p = sureL p i L + cutS p i L
  | [], _, _ => by simp [lumpsOf, unitsOf, sureL, cutS]
  | l :: ls, i, h => by
    have h1 := lumps_count hp (L := ls) (i := i + 1) fun b hb => h b (by rw [allOf]; exact List.mem_append_left _ hb)
    have h2 := map_count hp i (l := l) fun b hb => h b (by rw [allOf]; exact List.mem_append_right _ hb)
    rw [lumpsOf, units_app, List.countP_append, h1, h2, sureL, cutS]
    omega
theorem lumps_len : ∀ (L : Lv) (i : Nat), (unitsOf (lumpsOf i L)).length = totFrom i L
  | [], _ => rfl
  | l :: ls, i => by
    have h1 := lumps_len ls (i + 1)
    have h2 : ∀ l : List Sp, (unitsOf (l.map fun b => (b.2, 2 ^ i))).length = l.length * 2 ^ i := by
      intro l
      induction l with
      | nil => simp [unitsOf]
      | cons b l ih =>
        have e : unitsOf ((b :: l).map fun b => (b.2, 2 ^ i)) = List.replicate (2 ^ i) b.2 ++ unitsOf (l.map fun b => (b.2, 2 ^ i)) := rfl
        rw [e, List.length_append, ih, List.length_replicate, List.length_cons, Nat.add_mul]
        omega
    rw [lumpsOf, units_app, List.length_append, h1, h2, totFrom]
    omega
/-- The lumps of one histogram stand in turn. -/
theorem lumps_mem : ∀ {L : Lv} {i : Nat} {x : Sp}, x ∈ lumpsOf i L → ∃ b ∈ allOf L, x.1 = b.2
  | [], _, _, h => by cases h
  | l :: ls, i, x, h => by
    rw [lumpsOf] at h
    rcases List.mem_append.1 h with h | h
    · obtain ⟨b, hb, e⟩ := lumps_mem h
      exact ⟨b, by rw [allOf]; exact List.mem_append_left _ hb, e⟩
    · obtain ⟨b, hb, rfl⟩ := List.mem_map.1 h
      exact ⟨b, by rw [allOf]; exact List.mem_append_right _ hb, rfl⟩
theorem lumps_turn : ∀ {L : Lv} {i : Nat}, Turn (allOf L) → (lumpsOf i L).Pairwise fun x y => x.1 ≤ y.1
  | [], _, _ => List.Pairwise.nil
  | l :: ls, i, h => by
    rw [allOf] at h
    obtain ⟨h1, h2, h3⟩ := turn_app.1 h
    rw [lumpsOf, List.pairwise_append]
    refine ⟨lumps_turn h1, ?_, fun x hx y hy => ?_⟩
    · rw [List.pairwise_map]
      exact h2.2.imp_of_mem fun {a b} _ hb hab => Nat.le_trans hab (h2.1 b hb)
    · obtain ⟨a, ha, e⟩ := lumps_mem hx
      obtain ⟨b, hb, rfl⟩ := List.mem_map.1 hy
      rw [e]
      exact Nat.le_trans (h3 a ha b hb) (h2.1 b hb)

/-! ### Merge by merge -/

/-- A histogram of Gen g, to whose parts so much really came within. -/
structure Stands (k g : Nat) (L : Lv) (N : (Nat → Bool) → Nat) : Prop where
  made : Made k L
  rep : ∃ us, Rep 0 L us ∧ us.Pairwise (· ≤ ·) ∧ ∀ p, Up p → N p ≤ us.countP p ∧ k ^ g * us.countP p ≤ (k + 2) ^ g * N p
theorem Stands.mono {k g g' : Nat} {L : Lv} {N : (Nat → Bool) → Nat} (h : Stands k g L N) (hg : g ≤ g') : Stands k g' L N := by
  obtain ⟨hm, us, h1, h2, h3⟩ := h
  refine ⟨hm, us, h1, h2, fun p hp => ⟨(h3 p hp).1, ?_⟩⟩
  obtain ⟨d, rfl⟩ : ∃ d, g' = g + d := ⟨g' - g, by omega⟩
  have h4 := (h3 p hp).2
  have h5 : k ^ d ≤ (k + 2) ^ d := Nat.pow_le_pow_left (by omega) d
  rw [Nat.pow_add, Nat.pow_add, Nat.mul_right_comm, Nat.mul_right_comm ((k + 2) ^ g)]
  exact Nat.mul_le_mul h4 h5
/-- THE BOUND, of any Gen. -/
theorem Stands.bound {k g : Nat} {L : Lv} {N : (Nat → Bool) → Nat} (h : Stands k g L N) {p : Nat → Bool} (hp : Up p) :
    (k - 1) * N p ≤ k * estL p L ∧ k ^ (g + 1) * estL p L ≤ (k + 1) * (k + 2) ^ g * N p := by
  obtain ⟨hm, us, h1, h2, h3⟩ := h
  obtain ⟨h4, h5⟩ := h3 p hp
  obtain ⟨h6, h7⟩ := hm.bound hp h1 h2
  refine ⟨Nat.le_trans (Nat.mul_le_mul_left _ h4) h6, ?_⟩
  have e1 : k ^ (g + 1) * estL p L = k ^ g * (k * estL p L) := by rw [Nat.pow_succ, Nat.mul_assoc]
  have e2 := Nat.mul_le_mul_left (k ^ g) h7
  have e3 : k ^ g * ((k + 1) * us.countP p) = (k + 1) * (k ^ g * us.countP p) := by rw [Nat.mul_left_comm]
  have e4 := Nat.mul_le_mul_left (k + 1) h5
  rw [e1, Nat.mul_assoc]
  exact Nat.le_trans (by rw [← e3]; exact e2) e4
/-- What is sure, and what is cut, are no less than what really came. -/
theorem Stands.never {k g : Nat} {L : Lv} {N : (Nat → Bool) → Nat} (h : Stands k g L N) {p : Nat → Bool} (hp : Up p) : N p ≤ sureL p 0 L + cutS p 0 L := by
  obtain ⟨_, us, h1, h2, h3⟩ := h
  exact Nat.le_trans (h3 p hp).1 (rep_count hp h1 h2).2
theorem Stands.none {k g : Nat} {L : Lv} {N : (Nat → Bool) → Nat} (h : Stands k g L N) {p : Nat → Bool} (hp : Up p) (hn : N p = 0) : estL p L = 0 := by
  have hk := h.made.k2
  have h1 := (h.bound hp).2
  rw [hn, Nat.mul_zero] at h1
  rcases Nat.mul_eq_zero.1 (Nat.le_zero.1 h1) with e | e
  · have := Nat.pow_pos (n := g + 1) (show 0 < k by omega)
    omega
  · exact e
theorem sum_le {α : Type} (f g : α → Nat) : ∀ {l : List α}, (∀ x ∈ l, f x ≤ g x) → (l.map f).sum ≤ (l.map g).sum
  | [], _ => Nat.le_refl _
  | x :: l, h => by
    rw [List.map_cons, List.map_cons, List.sum_cons, List.sum_cons]
    exact Nat.add_le_add (h x List.mem_cons_self) (sum_le f g fun y hy => h y (List.mem_cons_of_mem _ hy))
theorem mul_sum {α : Type} (c : Nat) (f : α → Nat) : ∀ l : List α, c * (l.map f).sum = (l.map fun x => c * f x).sum
  | [] => by simp
  | x :: l => by rw [List.map_cons, List.sum_cons, Nat.mul_add, mul_sum c f l, List.map_cons, List.sum_cons]
theorem units_flat {α : Type} (f : α → List Sp) : ∀ l : List α, unitsOf (l.flatMap f) = l.flatMap fun x => unitsOf (f x)
  | [] => rfl
  | x :: l => by rw [List.flatMap_cons, units_app, units_flat f l, List.flatMap_cons]
/-- A merge. -/
theorem merge_stands {k g : Nat} (h2 : 2 ≤ k) (h1 : k ≤ 1024) {Ps : List (Lv × ((Nat → Bool) → Nat))} (hP : ∀ P ∈ Ps, Stands k g P.1 P.2) (hl : (Ps.map fun P => tot P.1).sum ≤ 4503599627370496) {all : List Sp} (ha : all.Perm (Ps.flatMap fun P => lumpsOf 0 P.1)) (hs : all.Pairwise fun x y => x.1 ≤ y.1) :
    Stands k (g + 1) (all.foldl (fun L x => addW k L x.1 x.2) []) (fun p => (Ps.map fun P => P.2 p).sum) ∧ tot (all.foldl (fun L x => addW k L x.1 x.2) []) = (Ps.map fun P => tot P.1).sum := by
  have hu := units_perm ha
  have hlen : (unitsOf all).length = (Ps.map fun P => tot P.1).sum := by
    rw [hu.length_eq, units_flat, List.length_flatMap]
    congr 1
    refine List.map_congr_left fun P _ => ?_
    rw [lumps_len, tot_eq]
  rw [fold_lumps]
  refine ⟨⟨made_histOf h2 h1 (units_sorted hs) (by rw [hlen]; exact hl), unitsOf all, rep_histOf k _, units_sorted hs, fun p hp => ?_⟩, by rw [tot_histOf, hlen]⟩
  have hc : (unitsOf all).countP p = (Ps.map fun P => sureL p 0 P.1 + cutS p 0 P.1).sum := by
    rw [hu.countP_eq, units_flat, List.countP_flatMap]
    congr 1
    refine List.map_congr_left fun P hP' => ?_
    exact lumps_count hp (hP P hP').made.ok.turn.1
  rw [hc]
  refine ⟨sum_le _ _ fun P hP' => (hP P hP').never hp, ?_⟩
  rw [mul_sum, mul_sum]
  refine sum_le _ _ fun P hP' => ?_
  obtain ⟨hm, us, r1, r2, r3⟩ := hP P hP'
  obtain ⟨c1, _⟩ := hm.cut hp
  have c3 := (rep_count hp r1 r2).1
  have c4 := (r3 p hp).2
  generalize sureL p 0 P.1 = s at *
  generalize cutS p 0 P.1 = c at *
  generalize us.countP p = M at *
  generalize P.2 p = n at *
  -- k (s + c) ≤ (k + 2) s ≤ (k + 2) M
  have d1 : k * (s + c) ≤ (k + 2) * M := by
    have := Nat.mul_le_mul_left (k + 2) c3
    have e : (k + 2) * s = k * s + 2 * s := Nat.add_mul k 2 s
    rw [Nat.mul_add]
    omega
  have d2 := Nat.mul_le_mul_left (k ^ g) d1
  have d3 := Nat.mul_le_mul_left (k + 2) c4
  rw [Nat.pow_succ, Nat.pow_succ, Nat.mul_assoc]
  refine Nat.le_trans d2 ?_
  rw [Nat.mul_left_comm]
  refine Nat.le_trans d3 ?_
  rw [Nat.mul_left_comm, Nat.mul_assoc]
  exact Nat.le_refl _

/-- What comes deed by deed, for all that may be asked. -/
theorem play_rep (k : Nat) (ds : List Sp) : ∀ j, j ≤ ds.length → ∃ us : List Nat, Rep 0 (play k ds j).2 us ∧ us.Pairwise (· ≤ ·) ∧ (∀ u ∈ us, u ≤ (play k ds j).1) ∧ ∀ p, us.countP p = exactN k p ds j
  | 0, _ => ⟨[], by rw [play_zero]; rfl, List.Pairwise.nil, by simp, fun p => by rw [exact_zero]; rfl⟩
  | j + 1, h => by
    obtain ⟨us, h1, h2, h3, h4⟩ := play_rep k ds j (by omega)
    rw [play_succ k ds j (by omega), step_tick, step_levs]
    have hx := fun p => exact_succ k p ds j (show j < ds.length by omega)
    generalize ds[j]'(by omega) = d at *
    obtain ⟨t, ht⟩ : ∃ t, (play k ds j).1 + d.1 % 1000 = t := ⟨_, rfl⟩
    simp only [ht] at hx
    rw [ht]
    by_cases hc : code (play k ds j).2 t d.2 = 0
    · rw [if_pos hc]
      refine ⟨us ++ List.replicate d.2 t, rep_addW k h1 t d.2, ?_, ?_, ?_⟩
      · rw [List.pairwise_append]
        refine ⟨h2, ?_, ?_⟩
        · rw [List.pairwise_replicate]
          exact .inr (Nat.le_refl _)
        · intro a ha b hb
          have := h3 a ha
          rw [List.eq_of_mem_replicate hb]
          omega
      · intro u hu
        rcases List.mem_append.1 hu with hu | hu
        · have := h3 u hu
          omega
        · rw [List.eq_of_mem_replicate hu]
          exact Nat.le_refl _
      · intro p
        rw [hx p, List.countP_append, h4, List.countP_replicate]
        cases hp : p t with
        | true => rw [if_pos rfl, if_pos ⟨hc, rfl⟩]
        | false => rw [if_neg (by simp), if_neg (by simp)]; rfl
    · rw [if_neg hc]
      exact ⟨us, h1, h2, fun u hu => by have := h3 u hu; omega, fun p => by rw [hx p, if_neg (fun h => hc h.1), h4]⟩
theorem play_stands {k : Nat} (hk : 2 ≤ k) (hk1 : k ≤ 1024) (ds : List Sp) (j : Nat) (h : j ≤ ds.length) : Stands k 0 (play k ds j).2 (fun p => exactN k p ds j) := by
  obtain ⟨us, h1, h2, _, h4⟩ := play_rep k ds j h
  refine ⟨play_made hk hk1 ds j h, us, h1, h2, fun p _ => ?_⟩
  rw [h4 p, Nat.pow_zero, Nat.pow_zero]
  exact ⟨Nat.le_refl _, Nat.le_refl _⟩
/-- SMALL: the buckets of any histogram that was made. -/
theorem Made.small_all {k : Nat} {L : Lv} (h : Made k L) {g : Nat} (hg : g ≤ 4) : cnt L ≤ boundN k g (tot L) := by
  have hk := h.k2
  have hk1 := h.k1
  by_cases hn : L = []
  · rw [hn]; exact Nat.zero_le _
  · have h1 := shape_many (by omega) h.ok.shape hn
    have h2 := cnt_few (by omega) h.few
    have h3 := pow_digs h1
    have hl := List.length_pos_iff.2 hn
    have h4 : 0 < tot L := Nat.lt_of_lt_of_le (Nat.two_pow_pos _) h1
    unfold boundN
    rw [if_pos ⟨by omega, ⟨by omega, by omega⟩, by omega, by omega⟩, Int.toNat_natCast, Int.toNat_natCast]
    exact Nat.le_trans h2 (Nat.mul_le_mul_left _ (by omega))

end Go.Proofs.Lh
end
section
/- Plain mathematics of With: what it tells, lumps in turn, groups of one tick, how far a merge has come. -/
namespace Go.Proofs.Lh
open Go.Proofs.Lm (Sp Turn)

/-- A histogram: K, Gen, its levels. An event: its tick, its key, its weight. -/
abbrev Hm := Int × Int × Lv
abbrev Ev := Nat × Nat × Nat

def gmax (ms : List Hm) : Int := ms.foldl (fun g m => max g m.2.1) 0
theorem gmax_take {ms : List Hm} {i : Nat} (h : i < ms.length) : gmax (ms.take (i + 1)) = max (gmax (ms.take i)) ms[i].2.1 := by
  unfold gmax
  rw [List.take_succ_eq_append_getElem h, List.foldl_append]
  rfl
theorem gmax_all (ms : List Hm) : gmax (ms.take ms.length) = gmax ms := by rw [List.take_length]
theorem gmax_le_aux (B : Int) : ∀ (ms : List Hm) (g : Int), g ≤ B → (∀ m ∈ ms, m.2.1 ≤ B) → ms.foldl (fun g m => max g m.2.1) g ≤ B
  | [], g, h, _ => h
  | m :: ms, g, h, hm => by
    rw [List.foldl_cons]
    exact gmax_le_aux B ms _ (by have := hm m List.mem_cons_self; omega) fun x hx => hm x (List.mem_cons_of_mem _ hx)
theorem gmax_le {ms : List Hm} {B : Int} (h0 : 0 ≤ B) (h : ∀ m ∈ ms, m.2.1 ≤ B) : gmax ms ≤ B := gmax_le_aux B ms 0 h0 h
theorem gmax_ge_aux : ∀ (ms : List Hm) (g : Int), g ≤ ms.foldl (fun g m => max g m.2.1) g ∧ ∀ m ∈ ms, m.2.1 ≤ ms.foldl (fun g m => max g m.2.1) g
  | [], g => ⟨Int.le_refl _, by simp⟩
  | m :: ms, g => by
    obtain ⟨h1, h2⟩ := gmax_ge_aux ms (max g m.2.1)
    rw [List.foldl_cons]
    refine ⟨by omega, fun x hx => ?_⟩
    rcases List.mem_cons.1 hx with rfl | hx
    · omega
    · exact h2 x hx
theorem gmax_nonneg (ms : List Hm) : 0 ≤ gmax ms := (gmax_ge_aux ms 0).1
theorem gmax_mem {ms : List Hm} {m : Hm} (h : m ∈ ms) : m.2.1 ≤ gmax ms := (gmax_ge_aux ms 0).2 m h

def lumpE (e : Ev) : Sp := (e.1, e.2.2)
def lumpAll (evs : List Ev) (ms : List Hm) : List Sp := (ms.flatMap fun m => lumpsOf 0 m.2.2) ++ evs.map lumpE
def totM (ms : List Hm) : Nat := (ms.map fun m => tot m.2.2).sum
def totE (evs : List Ev) : Nat := (evs.map fun e => e.2.2).sum
def kOne (ms : List Hm) : Int := (ms.head?.map fun m => m.1).getD 0
def lightB (evs : List Ev) : Bool := evs.all fun e => e.2.2 != 0
def earlyB (evs : List Ev) : Bool := evs.all fun e => decide (e.1 ≤ 9223372036854775807)
def alikeB (ms : List Hm) : Bool := ms.all fun m => m.1 == kOne ms
/-- What forbids a merge. -/
def badN (evs : List Ev) (ms : List Hm) : Nat :=
  if ms.length = 0 ∨ lightB evs = false then 1 else if alikeB ms = false then 9 else if 4 ≤ gmax ms then 10 else if earlyB evs = false then 6 else if 4503599627370496 < totM ms + totE evs then 5 else 0
def mergeL (k : Nat) (L : List Sp) : Lv := histOf k ((unitsOf L).mergeSort fun a b => decide (a ≤ b))
/-- What a merge tells. -/
def outM (evs : List Ev) (ms : List Hm) : Hm := if badN evs ms = 0 then (kOne ms, gmax ms + 1, mergeL (kOne ms).toNat (lumpAll evs ms)) else (0, 0, [])

theorem badN_zero {evs : List Ev} {ms : List Hm} (h : badN evs ms = 0) : 0 < ms.length ∧ lightB evs = true ∧ alikeB ms = true ∧ gmax ms < 4 ∧ earlyB evs = true ∧ totM ms + totE evs ≤ 4503599627370496 := by
  unfold badN at h
  split at h
  · omega
  rename_i h1
  split at h
  · omega
  rename_i h2
  split at h
  · omega
  rename_i h3
  split at h
  · omega
  rename_i h4
  split at h
  · omega
  rename_i h5
  refine ⟨by omega, ?_, by simpa using h2, by omega, by simpa using h4, by omega⟩
  have : ¬ lightB evs = false := fun e => h1 (.inr e)
  simpa using this

theorem units_len (ls : List Sp) : (unitsOf ls).length = (ls.map fun x => x.2).sum := by
  induction ls with
  | nil => rfl
  | cons x ls ih =>
    have e : unitsOf (x :: ls) = List.replicate x.2 x.1 ++ unitsOf ls := rfl
    rw [e, List.length_append, ih, List.length_replicate, List.map_cons, List.sum_cons]
theorem sum_perm {a b : List Sp} (h : a.Perm b) : (a.map fun x => x.2).sum = (b.map fun x => x.2).sum := by
  rw [← units_len, ← units_len]
  exact (units_perm h).length_eq
/-- Lumps in whatever turn, that rises. -/
theorem merge_fold (k : Nat) {all L : List Sp} (h : all.Perm L) (hs : all.Pairwise fun x y => x.1 ≤ y.1) : all.foldl (fun L x => addW k L x.1 x.2) [] = mergeL k L := by
  rw [fold_lumps]
  unfold mergeL
  congr 1
  refine List.Perm.eq_of_pairwise (le := (· ≤ ·)) (fun _ _ _ _ h1 h2 => Nat.le_antisymm h1 h2) (units_sorted hs) ?_ ((units_perm h).trans (List.mergeSort_perm _ _).symm)
  have := List.pairwise_mergeSort (le := fun a b : Nat => decide (a ≤ b)) (fun a b c h1 h2 => by simp at *; omega) (fun a b => by simp; omega) (unitsOf L)
  exact this.imp fun h => by simpa using h

/-! ### How far a merge has come -/

def upTo (k : Nat) (all : List Sp) (i : Nat) : Lv := (all.take i).foldl (fun L x => addW k L x.1 x.2) []
theorem upTo_zero (k : Nat) (all : List Sp) : upTo k all 0 = [] := by simp [upTo]
theorem upTo_succ (k : Nat) {all : List Sp} {i : Nat} (h : i < all.length) : upTo k all (i + 1) = addW k (upTo k all i) all[i].1 all[i].2 := by
  unfold upTo
  rw [List.take_succ_eq_append_getElem h, List.foldl_append]
  rfl
theorem upTo_all (k : Nat) (all : List Sp) : upTo k all all.length = all.foldl (fun L x => addW k L x.1 x.2) [] := by unfold upTo; rw [List.take_length]
theorem upTo_units (k : Nat) (all : List Sp) (i : Nat) : upTo k all i = histOf k (unitsOf (all.take i)) := fold_lumps k _

/-- Lumps that may come one behind the other. -/
structure Fine (k : Nat) (all : List Sp) : Prop where
  k2 : 2 ≤ k
  k1 : k ≤ 1024
  turn : all.Pairwise fun x y => x.1 ≤ y.1
  pos : ∀ x ∈ all, 1 ≤ x.2
  early : ∀ x ∈ all, x.1 ≤ 9223372036854775807
  small : (all.map fun x => x.2).sum ≤ 4503599627370496
theorem sum_take (all : List Sp) (i : Nat) : ((all.take i).map fun x => x.2).sum ≤ (all.map fun x => x.2).sum := by
  have e : (all.map fun x => x.2).sum = (((all.take i) ++ (all.drop i)).map fun x => x.2).sum := by rw [List.take_append_drop]
  rw [e, List.map_append, List.sum_append]
  omega
theorem Fine.made {k : Nat} {all : List Sp} (h : Fine k all) (i : Nat) : Made k (upTo k all i) := by
  rw [upTo_units]
  refine made_histOf h.k2 h.k1 (units_sorted (h.turn.sublist (List.take_sublist i all))) ?_
  rw [units_len]
  exact Nat.le_trans (sum_take all i) h.small
theorem Fine.code {k : Nat} {all : List Sp} (h : Fine k all) {i : Nat} (hi : i < all.length) : code (upTo k all i) all[i].1 all[i].2 = 0 := by
  have hp := h.pos _ (List.getElem_mem hi)
  have he := h.early _ (List.getElem_mem hi)
  have ht : tot (upTo k all i) = ((all.take i).map fun x => x.2).sum := by rw [upTo_units, tot_histOf, units_len]
  have hs : ((all.take (i + 1)).map fun x => x.2).sum = ((all.take i).map fun x => x.2).sum + all[i].2 := by
    rw [List.take_succ_eq_append_getElem hi, List.map_append, List.sum_append]
    simp
  have hle := sum_take all (i + 1)
  have hsm := h.small
  have hl : (lastOf (upTo k all i)).getD 0 ≤ all[i].1 := by
    cases i with
    | zero => rw [upTo_zero]; exact Nat.zero_le _
    | succ j =>
      have hj : j < all.length := by omega
      rw [upTo_succ k hj, addW_last k (by have := h.k2; omega) _ _ _ (h.made j).ok.shape (h.pos _ (List.getElem_mem hj))]
      exact List.pairwise_iff_getElem.1 h.turn j (j + 1) hj hi (by omega)
  unfold Lh.code
  rw [if_neg (by omega), if_neg (by omega), if_neg (by omega)]
theorem mem_bound {all : List Sp} {x : Sp} (h : x ∈ all) : x.2 ≤ (all.map fun x => x.2).sum := by
  induction all with
  | nil => cases h
  | cons y all ih =>
    rw [List.map_cons, List.sum_cons]
    rcases List.mem_cons.1 h with rfl | h
    · omega
    · have := ih h; omega

/-! ### Groups of one tick -/

def put1 (x : Sp) : List Sp → List Sp
  | [] => [x]
  | y :: g => if x.1 = y.1 then (x.1, x.2 + y.2) :: g else x :: y :: g
theorem put1_cons (x y : Sp) (g : List Sp) : put1 x (y :: g) = if x.1 = y.1 then (x.1, x.2 + y.2) :: g else x :: y :: g := rfl
def grp (all : List Sp) : List Sp := all.foldr put1 []
theorem grp_cons (x : Sp) (r : List Sp) : grp (x :: r) = put1 x (grp r) := rfl
theorem units_put1 (x : Sp) (g : List Sp) : unitsOf (put1 x g) = List.replicate x.2 x.1 ++ unitsOf g := by
  cases g with
  | nil => rfl
  | cons y g =>
    rw [put1_cons]
    split
    · rename_i h
      have e : unitsOf ((x.1, x.2 + y.2) :: g) = List.replicate (x.2 + y.2) x.1 ++ unitsOf g := rfl
      have e2 : unitsOf (y :: g) = List.replicate y.2 y.1 ++ unitsOf g := rfl
      rw [e, e2, ← h, ← List.append_assoc, List.replicate_append_replicate]
    · rfl
theorem units_grp : ∀ all : List Sp, unitsOf (grp all) = unitsOf all
  | [] => rfl
  | x :: r => by rw [grp_cons, units_put1, units_grp r]; rfl
theorem put1_head (x : Sp) (g : List Sp) : ∃ n g', put1 x g = (x.1, n) :: g' := by
  cases g with
  | nil => exact ⟨x.2, [], rfl⟩
  | cons y g =>
    rw [put1_cons]
    split
    · exact ⟨_, _, rfl⟩
    · exact ⟨x.2, _, rfl⟩
theorem grp_run (t : Nat) (rest : List Sp) (hrest : ∀ y, rest.head? = some y → y.1 ≠ t) : ∀ run : List Sp, run ≠ [] → (∀ x ∈ run, x.1 = t) → grp (run ++ rest) = (t, (run.map fun x => x.2).sum) :: grp rest
  | [], h, _ => absurd rfl h
  | [x], _, h => by
    have hx := h x List.mem_cons_self
    show put1 x (grp rest) = _
    have e : [x].map (fun x : Sp => x.2) = [x.2] := rfl
    rw [e, List.sum_cons, List.sum_nil, Nat.add_zero, ← hx]
    cases rest with
    | nil => rfl
    | cons y r =>
      have hy := hrest y rfl
      obtain ⟨n, g', e⟩ := put1_head y (grp r)
      rw [grp_cons, e]
      rw [put1_cons, if_neg (by rw [hx]; exact fun e => hy e.symm)]
  | x :: y :: r, _, h => by
    have hx := h x List.mem_cons_self
    have ih := grp_run t rest hrest (y :: r) (by simp) fun z hz => h z (List.mem_cons_of_mem _ hz)
    show put1 x (grp (y :: r ++ rest)) = _
    rw [ih]
    rw [put1_cons, if_pos hx, hx, List.map_cons (l := y :: r), List.sum_cons]
theorem grp_mem : ∀ {all : List Sp} {y : Sp}, y ∈ grp all → (∃ x ∈ all, y.1 = x.1) ∧ ((∀ x ∈ all, 1 ≤ x.2) → 1 ≤ y.2)
  | [], _, h => by cases h
  | x :: r, y, h => by
    rw [grp_cons] at h
    have ih := fun {y : Sp} (h : y ∈ grp r) => grp_mem h
    generalize grp r = g at h ih
    cases g with
    | nil =>
      have : y = x := by simpa [put1] using h
      subst this
      exact ⟨⟨y, List.mem_cons_self, rfl⟩, fun hp => hp y List.mem_cons_self⟩
    | cons z g =>
      rw [put1_cons] at h
      split at h
      · rcases List.mem_cons.1 h with rfl | h
        · exact ⟨⟨x, List.mem_cons_self, rfl⟩, fun hp => by have := hp x List.mem_cons_self; show 1 ≤ x.2 + z.2; omega⟩
        · obtain ⟨⟨a, ha, e⟩, h2⟩ := ih (List.mem_cons_of_mem _ h)
          exact ⟨⟨a, List.mem_cons_of_mem _ ha, e⟩, fun hp => h2 fun b hb => hp b (List.mem_cons_of_mem _ hb)⟩
      · rcases List.mem_cons.1 h with rfl | h
        · exact ⟨⟨y, List.mem_cons_self, rfl⟩, fun hp => hp y List.mem_cons_self⟩
        · obtain ⟨⟨a, ha, e⟩, h2⟩ := ih h
          exact ⟨⟨a, List.mem_cons_of_mem _ ha, e⟩, fun hp => h2 fun b hb => hp b (List.mem_cons_of_mem _ hb)⟩
theorem grp_turn : ∀ {all : List Sp}, all.Pairwise (fun x y => x.1 ≤ y.1) → (grp all).Pairwise fun x y => x.1 ≤ y.1
  | [], _ => List.Pairwise.nil
  | x :: r, h => by
    have hp := List.pairwise_cons.1 h
    have ih := grp_turn hp.2
    have hm : ∀ y ∈ grp r, x.1 ≤ y.1 := fun y hy => by
      obtain ⟨⟨a, ha, e⟩, _⟩ := grp_mem hy
      rw [e]
      exact hp.1 a ha
    rw [grp_cons]
    generalize grp r = g at ih hm
    cases g with
    | nil => exact List.pairwise_singleton _ _
    | cons z g =>
      have hz := List.pairwise_cons.1 ih
      rw [put1_cons]
      split
      · exact List.pairwise_cons.2 ⟨fun y hy => hm y (List.mem_cons_of_mem _ hy), hz.2⟩
      · exact List.pairwise_cons.2 ⟨hm, ih⟩
theorem Fine.grp {k : Nat} {all : List Sp} (h : Fine k all) : Fine k (grp all) where
  k2 := h.k2
  k1 := h.k1
  turn := grp_turn h.turn
  pos y hy := (grp_mem hy).2 h.pos
  early y hy := by
    obtain ⟨⟨a, ha, e⟩, _⟩ := grp_mem hy
    rw [e]
    exact h.early a ha
  small := by
    rw [← units_len, units_grp, units_len]
    exact h.small
theorem upTo_grp (k : Nat) (all : List Sp) : upTo k (grp all) (grp all).length = upTo k all all.length := by
  rw [upTo_units, upTo_units, List.take_length, List.take_length, units_grp]

/-! ### Lumps in the program's turn -/

def lotsTo (ls : Lv) (j : Nat) : List Sp := (List.range j).flatMap fun i => (lev ls i).map fun b => (b.2, 2 ^ i)
theorem lotsTo_succ (ls : Lv) (j : Nat) : lotsTo ls (j + 1) = lotsTo ls j ++ (lev ls j).map fun b => (b.2, 2 ^ j) := by
  unfold lotsTo
  rw [List.range_succ, List.flatMap_append]
  simp
theorem lots_aux : ∀ (ls : Lv) (i : Nat), (((List.range ls.length).flatMap fun j => (lev ls j).map fun b => (b.2, 2 ^ (i + j))) : List Sp).Perm (lumpsOf i ls)
  | [], _ => List.Perm.refl _
  | l :: ls, i => by
    have ih := lots_aux ls (i + 1)
    rw [List.length_cons, List.range_succ_eq_map, List.flatMap_cons, List.flatMap_map, lumpsOf]
    have e : ((List.range ls.length).flatMap fun j => (lev (l :: ls) (Nat.succ j)).map fun b => ((b.2, 2 ^ (i + Nat.succ j)) : Sp)) = (List.range ls.length).flatMap fun j => (lev ls j).map fun b => (b.2, 2 ^ (i + 1 + j)) := by
      congr 1
      funext j
      rw [show i + Nat.succ j = i + 1 + j by omega]
      rfl
    rw [e]
    refine (List.perm_append_comm).trans ?_
    exact ih.append (List.Perm.refl _)
theorem lots_perm (ls : Lv) : (lotsTo ls ls.length).Perm (lumpsOf 0 ls) := by
  have := lots_aux ls 0
  simp only [Nat.zero_add] at this
  exact this
def lotsP (evs : List Ev) (ms : List Hm) : List Sp := (ms.flatMap fun m => lotsTo m.2.2 m.2.2.length) ++ evs.map lumpE
theorem lotsP_perm (evs : List Ev) (ms : List Hm) : (lotsP evs ms).Perm (lumpAll evs ms) := by
  unfold lotsP lumpAll
  refine List.Perm.append ?_ (List.Perm.refl _)
  induction ms with
  | nil => exact List.Perm.refl _
  | cons m ms ih =>
    rw [List.flatMap_cons, List.flatMap_cons]
    exact (lots_perm m.2.2).append ih
theorem flat_take {α β : Type} (f : α → List β) {l : List α} {i : Nat} (h : i < l.length) : (l.take (i + 1)).flatMap f = (l.take i).flatMap f ++ f l[i] := by
  rw [List.take_succ_eq_append_getElem h, List.flatMap_append]
  simp
theorem map_take1 {α β : Type} (f : α → β) {l : List α} {i : Nat} (h : i < l.length) : (l.take (i + 1)).map f = (l.take i).map f ++ [f l[i]] := by
  rw [List.take_succ_eq_append_getElem h, List.map_append]
  rfl
/-- The document's turn: the last level first. -/
theorem lumps_step {ls : Lv} {j : Nat} (h : j < ls.length) : lumpsOf j (ls.drop j) = lumpsOf (j + 1) (ls.drop (j + 1)) ++ (lev ls j).map fun b => (b.2, 2 ^ j) := by
  rw [drop_lev h, lumpsOf]

/-! ### What a merge makes of histograms that were made -/

structure Good (m : Hm) : Prop where
  pos : 0 ≤ m.1
  made : Made m.1.toNat m.2.2
  early : ∀ b ∈ allOf m.2.2, b.2 ≤ 9223372036854775807
  gen0 : 0 ≤ m.2.1
  gen4 : m.2.1 ≤ 4
theorem lumps_pos : ∀ {L : Lv} {i : Nat} {x : Sp}, x ∈ lumpsOf i L → 1 ≤ x.2
  | [], _, _, h => by cases h
  | l :: ls, i, x, h => by
    rw [lumpsOf] at h
    rcases List.mem_append.1 h with h | h
    · exact lumps_pos h
    · obtain ⟨b, hb, rfl⟩ := List.mem_map.1 h
      exact Nat.one_le_two_pow
theorem lumpAll_sum (evs : List Ev) (ms : List Hm) : ((lumpAll evs ms).map fun x => x.2).sum = totM ms + totE evs := by
  unfold lumpAll totM totE
  rw [List.map_append, List.sum_append, List.map_map]
  congr 1
  rw [← units_len, units_flat, List.length_flatMap]
  congr 1
  refine List.map_congr_left fun m _ => ?_
  rw [lumps_len, tot_eq]
theorem kOne_mem {ms : List Hm} (h : 0 < ms.length) : ∃ m ∈ ms, m.1 = kOne ms := by
  cases ms with
  | nil => simp at h
  | cons m ms => exact ⟨m, List.mem_cons_self, rfl⟩
theorem fine_all {evs : List Ev} {ms : List Hm} (hb : badN evs ms = 0) (hg : ∀ m ∈ ms, Good m) {all : List Sp} (hp : all.Perm (lumpAll evs ms)) (hs : all.Pairwise fun x y => x.1 ≤ y.1) : Fine (kOne ms).toNat all := by
  obtain ⟨h0, h1, h2, h3, h4, h5⟩ := badN_zero hb
  obtain ⟨m, hm, e⟩ := kOne_mem h0
  have hmd := (hg m hm).made
  rw [e] at hmd
  refine ⟨hmd.k2, hmd.k1, hs, fun x hx => ?_, fun x hx => ?_, ?_⟩
  · have hx := hp.mem_iff.1 hx
    unfold lumpAll at hx
    rcases List.mem_append.1 hx with hx | hx
    · obtain ⟨m', _, hx⟩ := List.mem_flatMap.1 hx
      exact lumps_pos hx
    · obtain ⟨ev, hev, rfl⟩ := List.mem_map.1 hx
      have := List.all_eq_true.1 h1 ev hev
      simp at this
      show 1 ≤ ev.2.2
      omega
  · have hx := hp.mem_iff.1 hx
    unfold lumpAll at hx
    rcases List.mem_append.1 hx with hx | hx
    · obtain ⟨m', hm', hx⟩ := List.mem_flatMap.1 hx
      obtain ⟨b, hb, e⟩ := lumps_mem hx
      rw [e]
      exact (hg m' hm').early b hb
    · obtain ⟨ev, hev, rfl⟩ := List.mem_map.1 hx
      have := List.all_eq_true.1 h4 ev hev
      simp at this
      exact this
  · rw [sum_perm hp, lumpAll_sum]
    exact h5
/-- A sorted list of all lumps: it is there. -/
theorem sorted_ex (L : List Sp) : ∃ all : List Sp, all.Perm L ∧ all.Pairwise fun x y => x.1 ≤ y.1 := by
  refine ⟨L.mergeSort fun a b => decide (a.1 ≤ b.1), List.mergeSort_perm _ _, ?_⟩
  have := List.pairwise_mergeSort (le := fun a b : Sp => decide (a.1 ≤ b.1)) (fun a b c h1 h2 => by simp at *; omega) (fun a b => by simp; omega) L
  exact this.imp fun h => by simpa using h
theorem seg_mem (i : Nat) : ∀ {l : List Sp} {us : List Nat}, Seg i l us → ∀ b ∈ l, b.2 ∈ us
  | [], _, _, b, hb => by cases hb
  | c :: l, us, ⟨u, v, e, _, _, h3, h4⟩, b, hb => by
    rw [e]
    rcases List.mem_cons.1 hb with rfl | hb
    · exact List.mem_append_left _ (List.mem_of_getLast? h3)
    · exact List.mem_append_right _ (seg_mem i h4 b hb)
theorem rep_mem : ∀ {L : Lv} {i : Nat} {us : List Nat}, Rep i L us → ∀ b ∈ allOf L, b.2 ∈ us
  | [], _, _, _, b, hb => by cases hb
  | l :: ls, i, us, ⟨uo, un, e, h1, h2⟩, b, hb => by
    rw [allOf] at hb
    rw [e]
    rcases List.mem_append.1 hb with hb | hb
    · exact List.mem_append_left _ (rep_mem h1 b hb)
    · exact List.mem_append_right _ (seg_mem i h2 b hb)
theorem units_mem {ls : List Sp} {u : Nat} (h : u ∈ unitsOf ls) : ∃ x ∈ ls, u = x.1 := by
  obtain ⟨x, hx, h⟩ := List.mem_flatMap.1 h
  exact ⟨x, hx, List.eq_of_mem_replicate h⟩
theorem merge_made {evs : List Ev} {ms : List Hm} (hb : badN evs ms = 0) (hg : ∀ m ∈ ms, Good m) : Good (kOne ms, gmax ms + 1, mergeL (kOne ms).toNat (lumpAll evs ms)) := by
  obtain ⟨h0, h1, h2, h3, h4, h5⟩ := badN_zero hb
  obtain ⟨m, hm, e⟩ := kOne_mem h0
  obtain ⟨all, hp, hs⟩ := sorted_ex (lumpAll evs ms)
  have hf := fine_all hb hg hp hs
  have hmd := hf.made all.length
  have hu := upTo_units (kOne ms).toNat all all.length
  rw [upTo_all, merge_fold _ hp hs] at hmd hu
  rw [List.take_length] at hu
  refine ⟨by show 0 ≤ kOne ms; rw [← e]; exact (hg m hm).pos, hmd, fun b hbb => ?_, by have := gmax_nonneg ms; show 0 ≤ gmax ms + 1; omega, by show gmax ms + 1 ≤ 4; omega⟩
  have hbb : b ∈ allOf (mergeL (kOne ms).toNat (lumpAll evs ms)) := hbb
  rw [hu] at hbb
  obtain ⟨x, hx, ex⟩ := units_mem (rep_mem (rep_histOf _ _) b hbb)
  rw [ex]
  exact hf.early x hx
theorem merge_tot {evs : List Ev} {ms : List Hm} (k : Nat) : tot (mergeL k (lumpAll evs ms)) = totM ms + totE evs := by
  unfold mergeL
  rw [tot_histOf, (List.mergeSort_perm _ _).length_eq, units_len, lumpAll_sum]

end Go.Proofs.Lh
end
