/- Plain mathematics of whether levels may be a histogram: what must be so; how many buckets there are; the bound. -/
import Derived.Test.YtoplbjanemjebaaXShape
import Derived.Test.YtoplbjanemjebaaEsMath2
namespace Go.Proofs.Lh
open Go.Proofs.Lm (Sp Turn)

/-! ### What must be so -/

/-- The level i has as many buckets as it may. -/
def levOk (k : Nat) (ls : Lv) (i : Nat) : Bool := decide (1 ≤ (lev ls i).length ∧ (lev ls i).length ≤ rm k i ∧ (i + 1 = ls.length ∨ rm k i - 1 ≤ (lev ls i).length))
def shapedB (k : Nat) (ls : Lv) : Bool := (List.range ls.length).all (levOk k ls) && decide (ls.length ≤ 52)
/-- In turn, from the tick a on. -/
def inTurn : Nat → List Sp → Bool
  | _, [] => true
  | a, b :: l => decide (b.1 ≤ b.2 ∧ a ≤ b.1 ∧ b.2 ≤ 9223372036854775807) && inTurn b.2 l
def flatB (ls : Lv) : Bool := (lev ls 0).all fun x => x.1 == x.2
def goodB (k : Nat) (ls : Lv) : Bool := shapedB k ls && (inTurn 0 (allOf ls) && flatB ls) && decide (tot ls ≤ 4503599627370496)
/-- What Hist answers. -/
def chk (k g : Int) (ls : Lv) : Nat := if (2 ≤ k ∧ k ≤ 1024) ∧ 0 ≤ g ∧ g ≤ 4 then (if goodB k.toNat ls = true then 0 else 2) else 9

theorem turn_in : ∀ {xs : List Sp} {a : Nat}, Turn xs → (∀ x ∈ xs, a ≤ x.1 ∧ x.2 ≤ 9223372036854775807) → inTurn a xs = true
  | [], _, _, _ => rfl
  | b :: l, a, h, hx => by
    have hb := hx b List.mem_cons_self
    have h1 := h.1 b List.mem_cons_self
    have h2 := List.pairwise_cons.1 h.2
    rw [inTurn, turn_in (turn_sub h (List.sublist_cons_self b l)) (fun x hxl => ⟨h2.1 x hxl, (hx x (List.mem_cons_of_mem _ hxl)).2⟩)]
    simp
    omega
theorem in_turn : ∀ {xs : List Sp} {a : Nat}, inTurn a xs = true → ∀ x ∈ xs, x.1 ≤ x.2 ∧ x.2 ≤ 9223372036854775807
  | [], _, _ => by simp
  | b :: l, a, h => by
    rw [inTurn, Bool.and_eq_true, decide_eq_true_iff] at h
    intro x hx
    rcases List.mem_cons.1 hx with rfl | hx
    · omega
    · exact in_turn h.2 x hx
theorem inTurn_app : ∀ {xs ys : List Sp} {a : Nat}, inTurn a (xs ++ ys) = (inTurn a xs && inTurn ((xs.getLast?.map (·.2)).getD a) ys)
  | [], ys, a => by simp [inTurn]
  | b :: l, ys, a => by
    rw [List.cons_append, inTurn, inTurn, inTurn_app (xs := l), Bool.and_assoc]
    congr 2
    cases l with
    | nil => simp
    | cons c l => simp [List.getLast?_cons]
theorem shaped_of {k : Nat} (hk : 1 ≤ k) {ls : Lv} (hs : Shape k 0 ls) (hl : ls.length ≤ 52) : shapedB k ls = true := by
  unfold shapedB
  rw [Bool.and_eq_true, decide_eq_true_iff]
  refine ⟨List.all_eq_true.2 fun i hi => ?_, hl⟩
  have hi := List.mem_range.1 hi
  obtain ⟨h1, h2, h3⟩ := shape_at hk i hs hi
  rw [Nat.zero_add] at h2 h3
  unfold levOk
  rw [decide_eq_true_iff]
  refine ⟨h1, h2, ?_⟩
  by_cases e : i + 1 = ls.length
  · exact .inl e
  · exact .inr (h3 e)
theorem flat_of {ls : Lv} (h : flat ls) : flatB ls = true := by
  unfold flatB
  rw [List.all_eq_true]
  intro x hx
  simpa using flat_at h x hx
theorem shape_more {k : Nat} (hk : 1 ≤ k) {ls : Lv} {i : Nat} (h : Shape k i ls) (h2 : 2 ≤ ls.length) : 2 ^ (ls.length - 1) + 1 ≤ tot ls := by
  match ls, h, h2 with
  | [], _, h2 => simp at h2
  | [_], _, h2 => simp at h2
  | l :: m :: r, h, _ =>
    have h1 := shape_head hk h
    have h3 := shape_many hk h.2.2 (by simp)
    rw [tot, List.length_cons, show (m :: r).length + 1 - 1 = (m :: r).length - 1 + 1 by simp, Nat.pow_succ]
    omega
theorem Made.len52 {k : Nat} {ls : Lv} (h : Made k ls) : ls.length ≤ 52 := by
  rcases Nat.lt_or_ge 52 ls.length with h1 | h1
  · have h2 := shape_more (by have := h.k2; omega) h.ok.shape (by omega)
    have h3 : 2 ^ 52 ≤ 2 ^ (ls.length - 1) := Nat.pow_le_pow_right (by omega) (by omega)
    have := h.small
    omega
  · exact h1
/-- What was made may be. -/
theorem Made.good {k : Nat} {ls : Lv} (h : Made k ls) (hm : ∀ x ∈ allOf ls, x.2 ≤ 9223372036854775807) : goodB k ls = true := by
  unfold goodB
  rw [shaped_of (by have := h.k2; omega) h.ok.shape h.len52, turn_in h.ok.turn (fun x hx => ⟨Nat.zero_le _, hm x hx⟩), flat_of h.ok.flat]
  simpa using h.small
theorem Made.chk {k : Nat} {ls : Lv} (h : Made k ls) (hm : ∀ x ∈ allOf ls, x.2 ≤ 9223372036854775807) : Lh.chk (k : Int) 0 ls = 0 := by
  have h1 := h.k2
  have h2 := h.k1
  unfold Lh.chk
  rw [if_pos ⟨⟨by omega, by omega⟩, by omega, by omega⟩, Int.toNat_natCast, h.good hm, if_pos rfl]
theorem chk_bad {k : Nat} {ls : Lv} (h2 : 2 ≤ k) (h1 : k ≤ 1024) (h : goodB k ls = false) : Lh.chk (k : Int) 0 ls = 2 := by
  unfold Lh.chk
  rw [if_pos ⟨⟨by omega, by omega⟩, by omega, by omega⟩, Int.toNat_natCast, h, if_neg (by simp)]
theorem all_drop (f w : Nat) (L : Lv) : allOf (dropL f w L) = cutL f w (allOf L) := by
  unfold dropL
  rw [trim_all, all_cut]
/-- No tick is later than the last one that came. -/
theorem play_all {k : Nat} (hk : 2 ≤ k) (hk1 : k ≤ 1024) (ds : List Sp) (j : Nat) (h : j ≤ ds.length) : ∀ x ∈ allOf (play k ds j).2, x.2 ≤ 1000 * j := by
  intro x hx
  have hm := play_made hk hk1 ds j h
  have ht := play_tick k ds j h
  have hp := play_last k hk hk1 ds j h
  cases hl : lastOf (play k ds j).2 with
  | none =>
    exfalso
    cases hL : (play k ds j).2 with
    | nil => rw [hL] at hx; cases hx
    | cons l ls =>
      rw [hL] at hl hm
      have h1 := shape_head (by omega) hm.ok.shape
      cases l with
      | nil => simp at h1
      | cons b l => simp [lastOf] at hl
  | some last =>
    have h1 := all_le hm.ok.turn hl x hx
    have h2 := hp last hl
    omega

/-! ### What breaks it -/

theorem good_not {k : Nat} {ls : Lv} (h : shapedB k ls = false ∨ inTurn 0 (allOf ls) = false) : goodB k ls = false := by
  unfold goodB
  rcases h with h | h <;> simp [h]
theorem turn_not {ls : Lv} {x : Sp} (hx : x ∈ allOf ls) (h : x.2 < x.1 ∨ 9223372036854775807 < x.2) : inTurn 0 (allOf ls) = false := by
  cases hb : inTurn 0 (allOf ls) with
  | false => rfl
  | true =>
    have := in_turn hb x hx
    omega
theorem empty_not (k : Nat) (L : Lv) : shapedB k (L ++ [[]]) = false := by
  unfold shapedB
  rw [Bool.and_eq_false_iff]
  left
  rw [List.all_eq_false]
  refine ⟨L.length, by simp, ?_⟩
  unfold levOk
  have : lev (L ++ [[]]) L.length = [] := by simp [lev]
  rw [this]
  simp

/-- Without its oldest bucket. -/
def oldOf (L : Lv) : Lv := if (lev L (L.length - 1)).length ≤ 1 then L.take (L.length - 1) else L.take (L.length - 1) ++ [(lev L (L.length - 1)).drop 1]
theorem shape_front {k : Nat} (hk : 1 ≤ k) : ∀ {A : Lv} {x : List Sp} {i : Nat}, Shape k i (A ++ [x]) → Shape k i A
  | [], _, _, _ => trivial
  | [a], x, i, h => by
    have h1 : rm k i - 1 ≤ a.length ∧ a.length ≤ rm k i ∧ _ := h
    have h2 := rm_two k i hk
    exact ⟨by omega, h1.2.1⟩
  | a :: b :: A, x, i, h => by
    have h1 : rm k i - 1 ≤ a.length ∧ a.length ≤ rm k i ∧ Shape k (i + 1) (b :: A ++ [x]) := h
    exact ⟨h1.1, h1.2.1, shape_front hk h1.2.2⟩
theorem shape_less {k : Nat} : ∀ {A : Lv} {x y : List Sp} {i : Nat}, Shape k i (A ++ [x]) → 1 ≤ y.length → y.length ≤ x.length → Shape k i (A ++ [y])
  | [], x, y, i, h, h1, h2 => by
    have h3 : 1 ≤ x.length ∧ x.length ≤ rm k i := h
    exact ⟨h1, by omega⟩
  | [a], x, y, i, h, h1, h2 => by
    have h3 : rm k i - 1 ≤ a.length ∧ a.length ≤ rm k i ∧ Shape k (i + 1) [x] := h
    exact ⟨h3.1, h3.2.1, shape_less (A := []) h3.2.2 h1 h2⟩
  | a :: b :: A, x, y, i, h, h1, h2 => by
    have h3 : rm k i - 1 ≤ a.length ∧ a.length ≤ rm k i ∧ Shape k (i + 1) (b :: A ++ [x]) := h
    exact ⟨h3.1, h3.2.1, shape_less h3.2.2 h1 h2⟩
theorem tot_snoc : ∀ (A : Lv) (x : List Sp), tot (A ++ [x]) = tot A + x.length * 2 ^ A.length
  | [], x => by simp [tot]
  | a :: A, x => by
    rw [List.cons_append, tot, tot, tot_snoc A x, List.length_cons, Nat.pow_succ, ← Nat.mul_assoc]
    omega
theorem all_snoc : ∀ (A : Lv) (x : List Sp), allOf (A ++ [x]) = x ++ allOf A
  | [], x => by simp [allOf]
  | a :: A, x => by rw [List.cons_append, allOf, allOf, all_snoc A x, List.append_assoc]
theorem snoc_lev {L : Lv} (h : L ≠ []) : L = L.take (L.length - 1) ++ [lev L (L.length - 1)] := by
  have hl : L.length - 1 < L.length := by
    have := List.length_pos_iff.2 h
    omega
  rw [lev_lt hl, ← List.take_succ_eq_append_getElem hl, show L.length - 1 + 1 = L.length by omega, List.take_length]
theorem flat_front {A : Lv} {x : List Sp} (h : flat (A ++ [x])) : flat A := by
  cases A with
  | nil => trivial
  | cons a A => exact h
theorem flat_less {A : Lv} {x y : List Sp} (h : flat (A ++ [x])) (hy : ∀ z ∈ y, z ∈ x) : flat (A ++ [y]) := by
  cases A with
  | nil => exact fun z hz => h z (hy z hz)
  | cons a A => exact h
theorem Made.old {k : Nat} {L : Lv} (h : Made k L) (hn : L ≠ []) : Made k (oldOf L) ∧ ∀ x ∈ allOf (oldOf L), x ∈ allOf L := by
  have e := snoc_lev hn
  obtain ⟨A, hA⟩ : ∃ A, L.take (L.length - 1) = A := ⟨_, rfl⟩
  obtain ⟨x, hx⟩ : ∃ x, Lh.lev L (L.length - 1) = x := ⟨_, rfl⟩
  rw [hA, hx] at e
  unfold oldOf
  rw [hA, hx]
  have hs := h.ok.shape
  have ht := h.ok.turn
  have hf := h.ok.flat
  have htot := h.small
  have hk := h.k2
  rw [e] at hs ht hf htot
  rw [e, all_snoc]
  rw [all_snoc] at ht
  rw [tot_snoc] at htot
  split
  · exact ⟨⟨h.k2, h.k1, ⟨shape_front (by omega) hs, turn_sub ht (List.sublist_append_right x _), flat_front hf⟩, by omega⟩, fun y hy => List.mem_append_right _ hy⟩
  · rename_i hl
    have hd : (x.drop 1).Sublist x := List.drop_sublist 1 x
    have hdl : (x.drop 1).length = x.length - 1 := by simp
    refine ⟨⟨h.k2, h.k1, ⟨shape_less hs (by omega) (by omega), ?_, flat_less hf fun z hz => hd.subset hz⟩, ?_⟩, fun y hy => ?_⟩
    · rw [all_snoc]
      exact turn_sub ht (hd.append (List.Sublist.refl _))
    · rw [tot_snoc]
      have := Nat.mul_le_mul_right (2 ^ A.length) (show (x.drop 1).length ≤ x.length by omega)
      omega
    · rw [all_snoc] at hy
      rcases List.mem_append.1 hy with hy | hy
      · exact List.mem_append_left _ (hd.subset hy)
      · exact List.mem_append_right _ hy

/-! ### How many buckets there are, and the bound -/

def cnt : Lv → Nat
  | [] => 0
  | l :: ls => l.length + cnt ls
theorem cnt_app : ∀ a b : Lv, cnt (a ++ b) = cnt a + cnt b
  | [], b => by simp [cnt]
  | l :: a, b => by rw [List.cons_append, cnt, cnt, cnt_app a b]; omega
theorem cnt_take {ls : Lv} {i : Nat} (h : i < ls.length) : cnt (ls.take (i + 1)) = cnt (ls.take i) + ls[i].length := by
  rw [List.take_succ_eq_append_getElem h, cnt_app]
  simp [cnt]
theorem cnt_few {k : Nat} (hk : 1 ≤ k) : ∀ {ls : Lv} {i : Nat}, Few k i ls → cnt ls ≤ (k + 1) * ls.length
  | [], _, _ => by simp [cnt]
  | l :: ls, i, h => by
    have h1 : l.length ≤ rm k i := h.1
    have h2 := cnt_few hk h.2
    have h3 : rm k i ≤ k + 1 := by unfold rm; split <;> omega
    rw [cnt, List.length_cons, Nat.mul_add]
    omega

/-- How many binary digits a number has. -/
def digs (n : Nat) : Nat := if h : n = 0 then 0 else 1 + digs (n / 2)
termination_by n
theorem digs_zero : digs 0 = 0 := by rw [digs]; simp
theorem digs_pos {n : Nat} (h : n ≠ 0) : digs n = 1 + digs (n / 2) := by rw [digs, dif_neg h]
theorem digs_mono : ∀ (a b : Nat), a ≤ b → digs a ≤ digs b := by
  intro a
  induction a using Nat.strongRecOn with
  | _ a ih =>
    intro b h
    by_cases ha : a = 0
    · rw [ha, digs_zero]; exact Nat.zero_le _
    · have := ih (a / 2) (by omega) (b / 2) (by omega)
      rw [digs_pos ha, digs_pos (n := b) (by omega)]
      omega
theorem digs_two {n : Nat} (h : n ≠ 0) : digs (2 * n) = digs n + 1 := by
  rw [digs_pos (by omega), show 2 * n / 2 = n by omega]
  omega
theorem digs_pow : ∀ m : Nat, digs (2 ^ m) = m + 1
  | 0 => by rw [Nat.pow_zero, digs_pos (by omega), show 1 / 2 = 0 by omega, digs_zero]
  | m + 1 => by rw [Nat.pow_succ, Nat.mul_comm, digs_two (by have := Nat.two_pow_pos m; omega), digs_pow m]
theorem digs_le : ∀ (m n : Nat), n < 2 ^ m → digs n ≤ m
  | 0, n, h => by rw [show n = 0 by simp at h; omega, digs_zero]; exact Nat.le_refl _
  | m + 1, n, h => by
    by_cases hn : n = 0
    · rw [hn, digs_zero]; exact Nat.zero_le _
    · rw [Nat.pow_succ] at h
      have := digs_le m (n / 2) (by omega)
      rw [digs_pos hn]
      omega
theorem pow_digs {m n : Nat} (h : 2 ^ m ≤ n) : m + 1 ≤ digs n := by
  have := digs_mono _ _ h
  rw [digs_pow] at this
  exact this
/-- The bound. -/
def boundN (k g : Int) (n : Nat) : Nat := if n ≠ 0 ∧ (2 ≤ k ∧ k ≤ 1024) ∧ 0 ≤ g ∧ g ≤ 4 then (k.toNat + 1) * (digs n + g.toNat) else 0

theorem cut_last {p : Nat → Bool} (hp : Up p) {k : Nat} (hk : 1 ≤ k) : ∀ {D : Lv} {i : Nat}, Shape k i D → Turn (allOf D) → (∀ b ∈ allOf D, p b.2 = true) → D ≠ [] → cutS p i D = 0 ∨ 2 ^ (i + D.length - 1) ≤ cutS p i D
  | [], _, _, _, _, h => absurd rfl h
  | [l], i, _, _, _, _ => by
    rw [cutS, cutS, Nat.add_zero, List.length_singleton, show i + 1 - 1 = i by omega]
    rcases Nat.eq_zero_or_pos (l.countP (cutP p)) with e | e
    · left; rw [e, Nat.zero_mul]
    · right; exact Nat.le_mul_of_pos_left _ e
  | l :: m :: r, i, hs, ht, hb, _ => by
    have htt := ht
    rw [allOf] at htt
    obtain ⟨t1, t2, t3⟩ := turn_app.1 htt
    have hs2 := hs.2.2
    have hm := shape_head hk hs2
    obtain ⟨a, ha⟩ : ∃ a, a ∈ m := by
      cases m with
      | nil => simp at hm
      | cons a m => exact ⟨a, List.mem_cons_self⟩
    have ha2 : a ∈ allOf (m :: r) := by rw [allOf]; exact List.mem_append_right _ ha
    have hpa := hb a (by rw [allOf]; exact List.mem_append_left _ ha2)
    obtain ⟨_, e2⟩ := later_sure hp hpa (fun b hb' => t3 a ha2 b hb')
    have ih := cut_last hp hk hs2 t1 (fun b hb' => hb b (by rw [allOf]; exact List.mem_append_left _ hb')) (by simp)
    rw [cutS, e2, Nat.zero_mul, Nat.zero_add]
    rw [show i + (l :: m :: r).length - 1 = i + 1 + (m :: r).length - 1 by simp; omega]
    exact ih
theorem parts_all {p : Nat → Bool} : ∀ {D : Lv} {i : Nat}, (∀ b ∈ allOf D, p b.2 = true) → sureL p i D + cutS p i D = totFrom i D
  | [], _, _ => rfl
  | l :: ls, i, hb => by
    have ih := parts_all (D := ls) (i := i + 1) (fun b h => hb b (by rw [allOf]; exact List.mem_append_left _ h))
    have h : l.countP (sureP p) + l.countP (cutP p) = l.length := by
      have hl : ∀ b ∈ l, p b.2 = true := fun b h => hb b (by rw [allOf]; exact List.mem_append_right _ h)
      clear ih hb
      induction l with
      | nil => simp
      | cons b l ihl =>
        have h1 := hl b List.mem_cons_self
        have h2 := ihl fun c hc => hl c (List.mem_cons_of_mem _ hc)
        rw [List.countP_cons, List.countP_cons, List.length_cons]
        unfold sureP cutP at *
        rw [h1]
        cases p b.1 <;> simp <;> omega
    rw [sureL, cutS, totFrom, ← ih, ← h, Nat.add_mul]
    omega
/-- What isn't old. -/
def newB (f w t : Nat) : Bool := !oldB t f w
theorem new_up (f w : Nat) : Up (newB f w) := by
  intro a b h ha
  unfold newB oldB at *
  simp at *
  omega
/-- SMALL: the levels that are left are no more than the digits of what came and isn't old. -/
theorem Made.few_left {k : Nat} {L : Lv} (h : Made k L) (f w : Nat) {us : List Nat} (hr : Rep 0 L us) (hs : us.Pairwise (· ≤ ·)) (hn : dropL f w L ≠ []) : 2 ^ ((dropL f w L).length - 1) ≤ us.countP (newB f w) := by
  have hp := new_up f w
  have hd := h.drop f w
  have hk := h.k2
  have h1 := (rep_count hp hr hs).1
  have h2 := (parts_drop hp (f := f) (w := w) h.ok.turn (fun x hx => by unfold newB; rw [hx]; rfl)).1
  rw [← h2] at h1
  have hb : ∀ b ∈ allOf (dropL f w L), newB f w b.2 = true := by
    intro b hb
    rw [all_drop] at hb
    unfold cutL at hb
    exact (List.mem_filter.1 hb).2
  have h3 := parts_all (i := 0) hb
  rw [tot_eq] at h3
  have h4 := shape_many (by omega) hd.ok.shape hn
  have h5 := (hd.cut hp).1
  rcases cut_last hp (by omega) hd.ok.shape hd.ok.turn hb hn with e | e
  · omega
  · rw [Nat.zero_add] at e
    generalize cutS (newB f w) 0 (dropL f w L) = c at *
    generalize sureL (newB f w) 0 (dropL f w L) = s at *
    have : 2 * c ≤ k * c := Nat.mul_le_mul_right _ hk
    omega
theorem Made.small_left {k : Nat} {L : Lv} (h : Made k L) (f w : Nat) {us : List Nat} (hr : Rep 0 L us) (hs : us.Pairwise (· ≤ ·)) : cnt (dropL f w L) ≤ boundN k 0 (us.countP (newB f w)) ∧ (us.countP (newB f w) = 0 → cnt (dropL f w L) = 0) := by
  have hk := h.k2
  have hk1 := h.k1
  by_cases hn : dropL f w L = []
  · rw [hn]
    exact ⟨Nat.zero_le _, fun _ => rfl⟩
  · have h1 := h.few_left f w hr hs hn
    have h2 := cnt_few (by omega) (h.drop f w).few
    have h3 := pow_digs h1
    have hl := List.length_pos_iff.2 hn
    have h4 : 0 < us.countP (newB f w) := Nat.lt_of_lt_of_le (Nat.two_pow_pos _) h1
    refine ⟨?_, fun e => by omega⟩
    unfold boundN
    rw [if_pos ⟨by omega, ⟨by omega, by omega⟩, by omega, by omega⟩, Int.toNat_natCast]
    refine Nat.le_trans h2 (Nat.mul_le_mul_left _ ?_)
    simp
    omega
theorem play_small {k : Nat} (hk : 2 ≤ k) (hk1 : k ≤ 1024) (f w : Nat) (ds : List Sp) (j : Nat) (h : j ≤ ds.length) :
    cnt (dropL f w (play k ds j).2) ≤ boundN k 0 (exactN k (newB f w) ds j) ∧ (exactN k (newB f w) ds j = 0 → cnt (dropL f w (play k ds j).2) = 0) := by
  obtain ⟨us, h1, h2, _, h4⟩ := play_units k (newB f w) ds j h
  rw [← h4]
  exact (play_made hk hk1 ds j h).small_left f w h1 h2

/-! ### The bound grows -/

theorem bound_mono (k g : Int) {a b : Nat} (h : a ≤ b) : boundN k g a ≤ boundN k g b := by
  unfold boundN
  have := digs_mono a b h
  split
  · rename_i h1
    rw [if_pos ⟨by omega, h1.2⟩]
    exact Nat.mul_le_mul_left _ (by omega)
  · exact Nat.zero_le _
theorem bound_two {k : Nat} (hk : 2 ≤ k) (hk1 : k ≤ 1024) {g : Nat} (hg : g ≤ 4) {n : Nat} (hn : n ≠ 0) : boundN k g (2 * n) = boundN k g n + k + 1 := by
  unfold boundN
  rw [if_pos ⟨by omega, ⟨by omega, by omega⟩, by omega, by omega⟩, if_pos ⟨hn, ⟨by omega, by omega⟩, by omega, by omega⟩, digs_two hn, Int.toNat_natCast, Int.toNat_natCast, show digs n + 1 + g = digs n + g + 1 by omega, Nat.mul_add]
  omega
theorem bound_gen {k : Nat} (hk : 2 ≤ k) (hk1 : k ≤ 1024) {g : Nat} (hg : g + 1 ≤ 4) {n : Nat} (hn : n ≠ 0) : boundN k ((g + 1 : Nat) : Int) n = boundN k g n + k + 1 := by
  unfold boundN
  rw [if_pos ⟨hn, ⟨by omega, by omega⟩, by omega, by omega⟩, if_pos ⟨hn, ⟨by omega, by omega⟩, by omega, by omega⟩, Int.toNat_natCast, Int.toNat_natCast, Int.toNat_natCast, ← Nat.add_assoc, Nat.mul_add]
  omega
theorem bound_none (k g : Int) : boundN k g 0 = 0 := by simp [boundN]

end Go.Proofs.Lh
