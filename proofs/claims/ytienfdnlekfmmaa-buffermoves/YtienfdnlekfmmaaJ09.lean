/- Plain mathematics of estimates: which units a bucket stands for; what is sure, what is cut, and what really came. · What really came, deed by deed, and the units that a histogram stands for. · Plain mathematics of whether levels may be a histogram: what must be so; how many buckets there are; the bound. · Plain mathematics of histograms that are merged: units that are moved to a bucket's last tick, and the bound, merge by merge. -/
import Derived.Test.YtienfdnlekfmmaaJ03
import Derived.Test.YtienfdnlekfmmaaJ08
section
/- Plain mathematics of estimates: which units a bucket stands for; what is sure, what is cut, and what really came. -/
namespace Go.Proofs.Lh
open Go.Proofs.Lm (Sp Turn)

/-! ### Units: a bucket of the level i stands for 2^i units, one behind the other -/

def Seg (i : Nat) : List Sp → List Nat → Prop
  | [], us => us = []
  | b :: l, us => ∃ u v, us = u ++ v ∧ u.length = 2 ^ i ∧ u.head? = some b.1 ∧ u.getLast? = some b.2 ∧ Seg i l v
/-- Levels stand for units, the last level for the oldest ones. -/
def Rep : Nat → Lv → List Nat → Prop
  | _, [], us => us = []
  | i, l :: ls, us => ∃ uo un, us = uo ++ un ∧ Rep (i + 1) ls uo ∧ Seg i l un

theorem seg_app (i : Nat) : ∀ {l m : List Sp} {u v : List Nat}, Seg i l u → Seg i m v → Seg i (l ++ m) (u ++ v)
  | [], m, u, v, h, k => by rw [show u = [] from h]; exact k
  | b :: l, m, u, v, ⟨a, c, e, h1, h2, h3, h4⟩, k => ⟨a, c ++ v, by rw [e, List.append_assoc], h1, h2, h3, seg_app i h4 k⟩
theorem seg_split (i : Nat) : ∀ {l m : List Sp} {us : List Nat}, Seg i (l ++ m) us → ∃ u v, us = u ++ v ∧ Seg i l u ∧ Seg i m v
  | [], m, us, h => ⟨[], us, rfl, rfl, h⟩
  | b :: l, m, us, h => by
    obtain ⟨a, c, e, h1, h2, h3, h4⟩ := h
    obtain ⟨u, v, e2, k1, k2⟩ := seg_split i h4
    exact ⟨a ++ u, v, by rw [e, e2, List.append_assoc], ⟨a, u, rfl, h1, h2, h3, k1⟩, k2⟩
theorem seg_pair (i : Nat) : ∀ {l : List Sp} {us : List Nat}, l.length % 2 = 0 → Seg i l us → Seg (i + 1) (pairUp l) us
  | [], _, _, h => h
  | [_], _, hl, _ => by simp at hl
  | a :: b :: r, us, hl, h => by
    obtain ⟨u, v, e, h1, h2, h3, x, y, e2, k1, k2, k3, k4⟩ := h
    have hp : 0 < 2 ^ i := Nat.two_pow_pos i
    refine ⟨u ++ x, y, by rw [e, e2, List.append_assoc], by rw [List.length_append, h1, k1, Nat.pow_succ]; omega, ?_, ?_, seg_pair i (by simp at hl; omega) k4⟩
    · rw [List.head?_append, h2]; rfl
    · rw [List.getLast?_append, k3]; rfl
theorem seg_len (i : Nat) : ∀ {l : List Sp} {us : List Nat}, Seg i l us → us.length = l.length * 2 ^ i
  | [], us, h => by rw [show us = [] from h]; simp
  | b :: l, us, ⟨a, c, e, h1, _, _, h4⟩ => by
    have := seg_len i h4
    rw [e, List.length_append, h1, this, List.length_cons, Nat.add_mul]
    omega
theorem seg_push {i : Nat} {l : List Sp} {us : List Nat} {room : Nat} (hr : 1 ≤ room) (h : Seg i l us) : ∃ u v, us = u ++ v ∧ Seg (i + 1) (wentL l room) u ∧ Seg i (stayL l room) v := by
  have hp := prs_le l.length room hr
  rw [← List.take_append_drop (2 * prs l.length room) l] at h
  obtain ⟨u, v, e, h1, h2⟩ := seg_split i h
  exact ⟨u, v, e, seg_pair i (by rw [List.length_take]; omega) h1, h2⟩
theorem rep_new (k : Nat) : ∀ (n i : Nat) (come : List Sp) (us : List Nat), come.length ≤ n → Seg i come us → Rep i (newL k i come) us := by
  intro n
  induction n with
  | zero =>
    intro i come us h hs
    have : come = [] := List.eq_nil_of_length_eq_zero (by omega)
    subst this
    rw [newL_nil]
    exact hs
  | succ n ih =>
    intro i come us h hs
    by_cases hc : come = []
    · subst hc
      rw [newL_nil]
      exact hs
    · have h1 := went_lt come (rm k i) (rm_pos k i) hc
      obtain ⟨u, v, e, k1, k2⟩ := seg_push (rm_pos k i) hs
      rw [newL_ne k i hc]
      exact ⟨u, v, e, ih (i + 1) _ _ (by omega) k1, k2⟩
theorem rep_add (k : Nat) : ∀ {ls : Lv} {i : Nat} {come : List Sp} {uo uc : List Nat}, Rep i ls uo → Seg i come uc → Rep i (addL k i ls come) (uo ++ uc)
  | [], i, come, uo, uc, h, hc => by
    rw [addL, show uo = [] from h, List.nil_append]
    exact rep_new k _ i come uc (Nat.le_refl _) hc
  | l :: ls, i, come, uo, uc, ⟨a, b, e, h1, h2⟩, hc => by
    obtain ⟨u, v, e2, k1, k2⟩ := seg_push (rm_pos k i) (seg_app i h2 hc)
    rw [addL]
    exact ⟨a ++ u, v, by rw [e, List.append_assoc, e2, List.append_assoc], rep_add k h1 k1, k2⟩
theorem seg_units (t : Nat) : ∀ n : Nat, Seg 0 (List.replicate n (t, t)) (List.replicate n t)
  | 0 => rfl
  | n + 1 => ⟨[t], List.replicate n t, rfl, rfl, rfl, rfl, seg_units t n⟩
theorem rep_addW (k : Nat) {ls : Lv} {us : List Nat} (h : Rep 0 ls us) (t n : Nat) : Rep 0 (addW k ls t n) (us ++ List.replicate n t) := rep_add k h (seg_units t n)

/-! ### What is sure, and what is cut -/

/-- What is within at a tick is within at a later one. -/
def Up (p : Nat → Bool) : Prop := ∀ a b, a ≤ b → p a = true → p b = true
def sureP (p : Nat → Bool) (b : Sp) : Bool := p b.1
def cutP (p : Nat → Bool) (b : Sp) : Bool := !p b.1 && p b.2
def sureL (p : Nat → Bool) : Nat → Lv → Nat
  | _, [] => 0
  | i, l :: ls => l.countP (sureP p) * 2 ^ i + sureL p (i + 1) ls
def cutS (p : Nat → Bool) : Nat → Lv → Nat
  | _, [] => 0
  | i, l :: ls => l.countP (cutP p) * 2 ^ i + cutS p (i + 1) ls
/-- The estimate. -/
def estL (p : Nat → Bool) (L : Lv) : Nat := sureL p 0 L + cutS p 0 L / 2

theorem countP_sorted_all {p : Nat → Bool} (hp : Up p) {u : List Nat} {a : Nat} (hs : u.Pairwise (· ≤ ·)) (hh : u.head? = some a) (ha : p a = true) : u.countP p = u.length := by
  rw [List.countP_eq_length]
  intro x hx
  cases u with
  | nil => cases hx
  | cons y u =>
    injection hh with hh
    subst hh
    rcases List.mem_cons.1 hx with rfl | hx
    · exact ha
    · exact hp _ _ ((List.pairwise_cons.1 hs).1 x hx) ha
theorem countP_sorted_none {p : Nat → Bool} (hp : Up p) {u : List Nat} {b : Nat} (hs : u.Pairwise (· ≤ ·)) (hl : u.getLast? = some b) (hb : p b = false) : u.countP p = 0 := by
  rw [List.countP_eq_zero]
  intro x hx hpx
  obtain ⟨v, rfl⟩ : ∃ v, u = v ++ [b] := by
    rcases List.eq_nil_or_concat u with e | ⟨v, y, e⟩
    · rw [e] at hl; cases hl
    · rw [e] at hl
      simp at hl
      exact ⟨v, by rw [e, hl]; simp⟩
  have hxb : x ≤ b := by
    rcases List.mem_append.1 hx with h | h
    · exact (List.pairwise_append.1 hs).2.2 x h b (by simp)
    · rw [List.mem_singleton.1 h]; exact Nat.le_refl _
  have := hp x b hxb hpx
  rw [hb] at this
  cases this
theorem seg_count {p : Nat → Bool} (hp : Up p) (i : Nat) : ∀ {l : List Sp} {us : List Nat}, Seg i l us → us.Pairwise (· ≤ ·) → l.countP (sureP p) * 2 ^ i ≤ us.countP p ∧ us.countP p ≤ l.countP (sureP p) * 2 ^ i + l.countP (cutP p) * 2 ^ i
  | [], us, h, _ => by rw [show us = [] from h]; simp
  | b :: l, us, ⟨u, v, e, h1, h2, h3, h4⟩, hs => by
    subst e
    obtain ⟨s1, s2, _⟩ := List.pairwise_append.1 hs
    obtain ⟨k1, k2⟩ := seg_count hp i h4 s2
    rw [List.countP_append, List.countP_cons, List.countP_cons]
    have hle : u.countP p ≤ 2 ^ i := by rw [← h1]; exact List.countP_le_length
    cases hb1 : p b.1 with
    | true =>
      have := countP_sorted_all hp s1 h2 hb1
      have e1 : sureP p b = true := hb1
      have e2 : cutP p b = false := by unfold cutP; rw [hb1]; rfl
      rw [e1, e2, if_pos rfl, if_neg (by simp), Nat.add_mul, Nat.add_zero]
      omega
    | false =>
      have e1 : sureP p b = false := hb1
      cases hb2 : p b.2 with
      | true =>
        have e2 : cutP p b = true := by unfold cutP; rw [hb1, hb2]; rfl
        rw [e1, e2, if_neg (by simp), if_pos rfl, Nat.add_zero, Nat.add_mul]
        omega
      | false =>
        have := countP_sorted_none hp s1 h3 hb2
        have e2 : cutP p b = false := by unfold cutP; rw [hb1, hb2]; rfl
        rw [e1, e2, if_neg (by simp), Nat.add_zero, Nat.add_zero]
        omega
/-- What is sure is no more than what really came, and with what is cut it is no less. -/
theorem rep_count {p : Nat → Bool} (hp : Up p) : ∀ {L : Lv} {i : Nat} {us : List Nat}, Rep i L us → us.Pairwise (· ≤ ·) → sureL p i L ≤ us.countP p ∧ us.countP p ≤ sureL p i L + cutS p i L
  | [], i, us, h, _ => by rw [show us = [] from h]; simp [sureL, cutS]
  | l :: ls, i, us, ⟨uo, un, e, h1, h2⟩, hs => by
    subst e
    obtain ⟨s1, s2, _⟩ := List.pairwise_append.1 hs
    have a := rep_count hp h1 s1
    have b := seg_count hp i h2 s2
    rw [List.countP_append, sureL, cutS]
    omega

/-! ### The bound -/

theorem cut_some {p : Nat → Bool} : ∀ {L : Lv} {i : Nat}, cutS p i L ≠ 0 → ∃ b ∈ allOf L, p b.2 = true
  | [], _, h => absurd rfl h
  | l :: ls, i, h => by
    rw [cutS] at h
    by_cases h1 : cutS p (i + 1) ls = 0
    · have h2 : l.countP (cutP p) ≠ 0 := by
        intro e
        rw [e, h1] at h
        simp at h
      obtain ⟨b, hb, hc⟩ := List.countP_pos_iff.1 (Nat.pos_of_ne_zero h2)
      unfold cutP at hc
      simp at hc
      exact ⟨b, by rw [allOf]; exact List.mem_append_right _ hb, hc.2⟩
    · obtain ⟨b, hb, hc⟩ := cut_some h1
      exact ⟨b, by rw [allOf]; exact List.mem_append_left _ hb, hc⟩
theorem later_sure {p : Nat → Bool} (hp : Up p) {l : List Sp} {a : Sp} (ha : p a.2 = true) (h : ∀ b ∈ l, a.2 ≤ b.1) : l.countP (sureP p) = l.length ∧ l.countP (cutP p) = 0 := by
  constructor
  · rw [List.countP_eq_length]
    exact fun b hb => hp _ _ (h b hb) ha
  · rw [List.countP_eq_zero]
    intro b hb hc
    unfold cutP at hc
    rw [hp _ _ (h b hb) ha] at hc
    simp at hc
theorem cut_one {p : Nat → Bool} (hp : Up p) : ∀ {l : List Sp}, Turn l → l.countP (cutP p) ≤ 1
  | [], _ => by simp
  | b :: l, h => by
    have hl : Turn l := turn_sub h (List.sublist_cons_self b l)
    have ih := cut_one hp hl
    rw [List.countP_cons]
    cases hb : cutP p b with
    | false => simpa using ih
    | true =>
      have hb2 : p b.2 = true := by unfold cutP at hb; simp at hb; exact hb.2
      have := (later_sure hp hb2 fun c hc => (List.pairwise_cons.1 h.2).1 c hc).2
      rw [this, if_pos rfl]
      omega
/-- A bucket that is cut on a level from i on has no more units than all that are newer, by k. -/
theorem cut_bound {p : Nat → Bool} (hp : Up p) {k : Nat} (hk : 1 ≤ k) : ∀ {L : Lv} {i : Nat} (T : Nat), 1 ≤ i → Shape k i L → Turn (allOf L) → k * 2 ^ i ≤ 2 * T → k * cutS p i L ≤ 2 * (T + sureL p i L)
  | [], _, T, _, _, _, _ => by simp [cutS, sureL]
  | l :: ls, i, T, hi, hs, ht, hT => by
    have htt := ht
    rw [allOf] at htt
    obtain ⟨t1, t2, t3⟩ := turn_app.1 htt
    rw [cutS, sureL]
    by_cases h0 : cutS p (i + 1) ls = 0
    · rw [h0, Nat.add_zero]
      have h1 := cut_one hp t2
      rcases Nat.eq_zero_or_pos (l.countP (cutP p)) with e | e
      · rw [e]; simp
      · rw [show l.countP (cutP p) = 1 by omega, Nat.one_mul]
        omega
    · obtain ⟨a, ha, hpa⟩ := cut_some h0
      obtain ⟨e1, e2⟩ := later_sure hp hpa (fun b hb => t3 a ha b hb)
      rw [e1, e2, Nat.zero_mul, Nat.zero_add]
      cases ls with
      | nil => exact absurd rfl h0
      | cons m ls =>
        have hm : (k + 1) / 2 ≤ l.length := by
          have h3 : rm k i - 1 ≤ l.length := hs.1
          unfold rm at h3
          rw [if_neg (by omega)] at h3
          omega
        have hmul : (k + 1) / 2 * 2 ^ i ≤ l.length * 2 ^ i := Nat.mul_le_mul_right _ hm
        have hkk : k * 2 ^ i ≤ 2 * ((k + 1) / 2 * 2 ^ i) := by
          rw [← Nat.mul_assoc]
          exact Nat.mul_le_mul_right _ (by omega)
        have := cut_bound hp hk (T + l.length * 2 ^ i) (by omega) hs.2.2 t1 (by rw [Nat.pow_succ, ← Nat.mul_assoc]; omega)
        omega
theorem cut_flat {p : Nat → Bool} {l : List Sp} (h : ∀ x ∈ l, x.1 = x.2) : l.countP (cutP p) = 0 := by
  rw [List.countP_eq_zero]
  intro b hb hc
  unfold cutP at hc
  rw [h b hb] at hc
  cases p b.2 <;> simp at hc
theorem cut_even {p : Nat → Bool} : ∀ {L : Lv} {i : Nat}, 1 ≤ i → cutS p i L % 2 = 0
  | [], _, _ => rfl
  | l :: ls, i, h => by
    have := cut_even (p := p) (L := ls) (i := i + 1) (by omega)
    obtain ⟨j, rfl⟩ : ∃ j, i = j + 1 := ⟨i - 1, by omega⟩
    rw [cutS, Nat.pow_succ, ← Nat.mul_assoc]
    omega
theorem Made.cut {k : Nat} {L : Lv} (h : Made k L) {p : Nat → Bool} (hp : Up p) : k * cutS p 0 L ≤ 2 * sureL p 0 L ∧ cutS p 0 L % 2 = 0 := by
  have hk := h.k2
  have hs := h.ok.shape
  have ht := h.ok.turn
  have hf := h.ok.flat
  cases L with
  | nil => simp [cutS, sureL]
  | cons l ls =>
    rw [cutS, sureL, cut_flat hf, Nat.zero_mul, Nat.zero_add]
    refine ⟨?_, cut_even (by omega)⟩
    rw [allOf] at ht
    obtain ⟨t1, t2, t3⟩ := turn_app.1 ht
    by_cases h0 : cutS p (0 + 1) ls = 0
    · rw [h0]; simp
    · obtain ⟨a, ha, hpa⟩ := cut_some h0
      obtain ⟨e1, e2⟩ := later_sure hp hpa (fun b hb => t3 a ha b hb)
      rw [e1]
      cases ls with
      | nil => exact absurd rfl h0
      | cons m ls =>
        have hm : k ≤ l.length := by
          have h3 : rm k 0 - 1 ≤ l.length := hs.1
          unfold rm at h3
          rw [if_pos rfl] at h3
          omega
        exact cut_bound hp (by omega) (l.length * 2 ^ 0) (by omega) hs.2.2 t1 (by simp; omega)
/-- THE BOUND. -/
theorem Made.bound {k : Nat} {L : Lv} (h : Made k L) {p : Nat → Bool} (hp : Up p) {us : List Nat} (hr : Rep 0 L us) (hs : us.Pairwise (· ≤ ·)) : (k - 1) * us.countP p ≤ k * estL p L ∧ k * estL p L ≤ (k + 1) * us.countP p := by
  obtain ⟨h1, h2⟩ := h.cut hp
  obtain ⟨h3, h4⟩ := rep_count hp hr hs
  unfold estL
  have hk := h.k2
  obtain ⟨c, hc⟩ : ∃ c, cutS p 0 L = 2 * c := ⟨cutS p 0 L / 2, by omega⟩
  rw [hc] at h1 h4 ⊢
  rw [show 2 * c / 2 = c by omega]
  generalize sureL p 0 L = s at *
  generalize us.countP p = n at *
  have h5 : k * c ≤ s := by
    have : k * (2 * c) = 2 * (k * c) := by rw [Nat.mul_left_comm]
    omega
  obtain ⟨j, rfl⟩ : ∃ j, k = j + 1 := ⟨k - 1, by omega⟩
  constructor
  · -- (k - 1) n ≤ k (s + c): k n ≤ k (s + 2 c), and k c ≤ s ≤ n
    have a1 : (j + 1) * n ≤ (j + 1) * (s + 2 * c) := Nat.mul_le_mul_left _ h4
    have a2 : (j + 1) * (s + 2 * c) = (j + 1) * (s + c) + (j + 1) * c := by rw [← Nat.mul_add]; congr 1; omega
    have a3 : (j + 1) * n = j * n + n := by rw [Nat.add_mul]; omega
    rw [show j + 1 - 1 = j by omega]
    omega
  · have a1 : (j + 1) * s ≤ (j + 1) * n := Nat.mul_le_mul_left _ h3
    rw [Nat.mul_add, show (j + 1 + 1) * n = (j + 1) * n + n by rw [Nat.add_mul (j + 1) 1]; omega]
    omega

/-! ### More is within: as much, or more; what is dropped; all -/

theorem count_mono {p q : Nat → Bool} (h : ∀ x, p x = true → q x = true) : ∀ l : List Sp, 2 * l.countP (sureP p) + l.countP (cutP p) ≤ 2 * l.countP (sureP q) + l.countP (cutP q)
  | [] => by simp
  | b :: l => by
    have ih := count_mono h l
    rw [List.countP_cons, List.countP_cons, List.countP_cons, List.countP_cons]
    have h1 := h b.1
    have h2 := h b.2
    unfold sureP cutP at *
    cases hp1 : p b.1 <;> cases hp2 : p b.2 <;> cases hq1 : q b.1 <;> cases hq2 : q b.2 <;> simp_all <;> omega
theorem two_mono {p q : Nat → Bool} (h : ∀ x, p x = true → q x = true) : ∀ (L : Lv) (i : Nat), 2 * sureL p i L + cutS p i L ≤ 2 * sureL q i L + cutS q i L
  | [], _ => Nat.le_refl _
  | l :: ls, i => by
    have ih := two_mono h ls (i + 1)
    have := Nat.mul_le_mul_right (2 ^ i) (count_mono h l)
    rw [Nat.add_mul, Nat.add_mul, Nat.mul_assoc, Nat.mul_assoc] at this
    rw [sureL, cutS, sureL, cutS]
    omega
theorem est_mono {p q : Nat → Bool} (h : ∀ x, p x = true → q x = true) (L : Lv) : estL p L ≤ estL q L := by
  have := two_mono h L 0
  unfold estL
  omega
theorem sure_all {p : Nat → Bool} (h : ∀ x, p x = true) : ∀ (L : Lv) (i : Nat), sureL p i L = totFrom i L ∧ cutS p i L = 0
  | [], _ => ⟨rfl, rfl⟩
  | l :: ls, i => by
    obtain ⟨h1, h2⟩ := sure_all h ls (i + 1)
    have e1 : l.countP (sureP p) = l.length := List.countP_eq_length.2 fun b _ => h b.1
    have e2 : l.countP (cutP p) = 0 := List.countP_eq_zero.2 fun b _ hc => by unfold cutP at hc; rw [h b.1] at hc; simp at hc
    rw [sureL, cutS, totFrom, h1, h2, e1, e2]
    simp
theorem est_all {p : Nat → Bool} (h : ∀ x, p x = true) (L : Lv) : estL p L = tot L := by
  obtain ⟨h1, h2⟩ := sure_all h L 0
  unfold estL
  rw [h1, h2, tot_eq]
  simp
theorem parts_trim {p : Nat → Bool} : ∀ (M : Lv) (i : Nat), sureL p i (trim M) = sureL p i M ∧ cutS p i (trim M) = cutS p i M
  | [], _ => ⟨rfl, rfl⟩
  | l :: ls, i => by
    obtain ⟨h1, h2⟩ := parts_trim (p := p) ls (i + 1)
    rw [trim]
    split
    · rename_i h
      rw [h.2] at h1 h2
      show 0 = l.countP (sureP p) * 2 ^ i + sureL p (i + 1) ls ∧ 0 = l.countP (cutP p) * 2 ^ i + cutS p (i + 1) ls
      rw [← h1, ← h2, h.1]
      simp [sureL, cutS]
    · rw [sureL, cutS, sureL, cutS, h1, h2]
      exact ⟨rfl, rfl⟩
theorem parts_cut {p : Nat → Bool} {f w : Nat} : ∀ (L : Lv) (i : Nat), (∀ b ∈ allOf L, oldB b.2 f w = true → p b.1 = false ∧ p b.2 = false) → sureL p i (L.map (cutL f w)) = sureL p i L ∧ cutS p i (L.map (cutL f w)) = cutS p i L
  | [], _, _ => ⟨rfl, rfl⟩
  | l :: ls, i, h => by
    obtain ⟨h1, h2⟩ := parts_cut ls (i + 1) (fun b hb => h b (by rw [allOf]; exact List.mem_append_left _ hb))
    have key : ∀ q : Sp → Bool, (∀ b ∈ l, oldB b.2 f w = true → q b = false) → (cutL f w l).countP q = l.countP q := by
      intro q hq
      unfold cutL
      rw [List.countP_filter]
      refine List.countP_congr fun b hb => ?_
      cases ho : oldB b.2 f w with
      | true => simp [hq b hb ho]
      | false => simp
    have hm : ∀ b ∈ l, b ∈ allOf (l :: ls) := fun b hb => by rw [allOf]; exact List.mem_append_right _ hb
    rw [List.map_cons, sureL, cutS, sureL, cutS, h1, h2, key (sureP p) (fun b hb ho => (h b (hm b hb) ho).1), key (cutP p) (fun b hb ho => by unfold cutP; rw [(h b (hm b hb) ho).2]; simp)]
    exact ⟨rfl, rfl⟩
/-- What is dropped changes nothing, where nothing of it is within. -/
theorem parts_drop {p : Nat → Bool} (hp : Up p) {f w : Nat} {L : Lv} (ht : Turn (allOf L)) (h : ∀ x, oldB x f w = true → p x = false) : sureL p 0 (dropL f w L) = sureL p 0 L ∧ cutS p 0 (dropL f w L) = cutS p 0 L := by
  have hc := parts_cut (p := p) (f := f) (w := w) L 0 (fun b hb ho => by
    have h2 := h b.2 ho
    refine ⟨?_, h2⟩
    cases h1 : p b.1 with
    | false => rfl
    | true =>
      have := hp _ _ (ht.1 b hb) h1
      rw [h2] at this
      cases this)
  unfold dropL
  rw [(parts_trim _ 0).1, (parts_trim _ 0).2]
  exact hc

/-- Whether a tick is within. -/
def withB (tick span t : Nat) : Bool := decide (tick < t + span)
theorem with_up (tick span : Nat) : Up (withB tick span) := by
  intro a b h ha
  unfold withB at *
  rw [decide_eq_true_iff] at *
  omega

end Go.Proofs.Lh
end
section
/- What really came, deed by deed, and the units that a histogram stands for. -/
namespace Go.Proofs.Lh
open Go.Proofs.Lm (Sp)

/-- One deed: what came within is counted. -/
def exStep (k : Nat) (p : Nat → Bool) (s : (Nat × Lv) × Nat) (d : Sp) : (Nat × Lv) × Nat :=
  (stepP k s.1 d, if code s.1.2 (s.1.1 + d.1 % 1000) d.2 = 0 ∧ p (s.1.1 + d.1 % 1000) = true then s.2 + d.2 else s.2)
def exFold (k : Nat) (p : Nat → Bool) (ds : List Sp) (j : Nat) : (Nat × Lv) × Nat := (ds.take j).foldl (exStep k p) ((0, []), 0)
/-- How many units came within, of the first j deeds. -/
def exactN (k : Nat) (p : Nat → Bool) (ds : List Sp) (j : Nat) : Nat := (exFold k p ds j).2
theorem exFold_play (k : Nat) (p : Nat → Bool) (ds : List Sp) (j : Nat) : (exFold k p ds j).1 = play k ds j := by
  unfold exFold play
  generalize ds.take j = es
  suffices h : ∀ (es : List Sp) (s : (Nat × Lv) × Nat), (es.foldl (exStep k p) s).1 = es.foldl (stepP k) s.1 from h es _
  intro es
  induction es with
  | nil => intro s; rfl
  | cons e es ih => intro s; rw [List.foldl_cons, List.foldl_cons, ih]; rfl
theorem exact_zero (k : Nat) (p : Nat → Bool) (ds : List Sp) : exactN k p ds 0 = 0 := by simp [exactN, exFold]
theorem exact_succ (k : Nat) (p : Nat → Bool) (ds : List Sp) (j : Nat) (h : j < ds.length) :
    exactN k p ds (j + 1) = if code (play k ds j).2 ((play k ds j).1 + ds[j].1 % 1000) ds[j].2 = 0 ∧ p ((play k ds j).1 + ds[j].1 % 1000) = true then exactN k p ds j + ds[j].2 else exactN k p ds j := by
  have e := exFold_play k p ds j
  unfold exactN
  have : exFold k p ds (j + 1) = exStep k p (exFold k p ds j) ds[j] := by
    unfold exFold
    rw [List.take_succ_eq_append_getElem h, List.foldl_append]
    rfl
  rw [this, ← e]
  rfl
/-- The units. -/
theorem play_units (k : Nat) (p : Nat → Bool) (ds : List Sp) : ∀ j, j ≤ ds.length → ∃ us : List Nat, Rep 0 (play k ds j).2 us ∧ us.Pairwise (· ≤ ·) ∧ (∀ u ∈ us, u ≤ (play k ds j).1) ∧ us.countP p = exactN k p ds j
  | 0, _ => ⟨[], by rw [play_zero]; rfl, List.Pairwise.nil, by simp, by rw [exact_zero]; rfl⟩
  | j + 1, h => by
    obtain ⟨us, h1, h2, h3, h4⟩ := play_units k p ds j (by omega)
    rw [play_succ k ds j (by omega), step_tick, step_levs, exact_succ k p ds j (by omega)]
    generalize ds[j]'(by omega) = d at *
    obtain ⟨t, ht⟩ : ∃ t, (play k ds j).1 + d.1 % 1000 = t := ⟨_, rfl⟩
    rw [ht]
    by_cases hc : code (play k ds j).2 t d.2 = 0
    · rw [if_pos hc]
      refine ⟨us ++ List.replicate d.2 t, rep_addW k h1 t d.2, ?_, ?_, ?_⟩
      · rw [List.pairwise_append]
        refine ⟨h2, ?_, ?_⟩
        · rw [List.pairwise_replicate]
          exact .inr (Nat.le_refl _)
        · intro a ha b hb
          have := h3 a ha
          rw [List.eq_of_mem_replicate hb]
          omega
      · intro u hu
        rcases List.mem_append.1 hu with hu | hu
        · have := h3 u hu
          omega
        · rw [List.eq_of_mem_replicate hu]
          exact Nat.le_refl _
      · rw [List.countP_append, h4, List.countP_replicate]
        cases hp : p t with
        | true => rw [if_pos rfl, if_pos ⟨hc, rfl⟩]
        | false => rw [if_neg (by simp), if_neg (by simp)]; rfl
    · rw [if_neg hc, if_neg (fun h => hc h.1)]
      exact ⟨us, h1, h2, fun u hu => by have := h3 u hu; omega, h4⟩

/-- It is no more than all that there is. -/
theorem rep_len : ∀ {L : Lv} {i : Nat} {us : List Nat}, Rep i L us → us.length = totFrom i L
  | [], _, us, h => by rw [show us = [] from h]; rfl
  | l :: ls, i, us, ⟨uo, un, e, h1, h2⟩ => by
    rw [e, List.length_append, rep_len h1, seg_len i h2, totFrom]
    omega
theorem exact_le (k : Nat) (p : Nat → Bool) (ds : List Sp) (j : Nat) (h : j ≤ ds.length) : exactN k p ds j ≤ tot (play k ds j).2 := by
  obtain ⟨us, h1, _, _, h4⟩ := play_units k p ds j h
  rw [← h4, ← tot_eq, ← rep_len h1]
  exact List.countP_le_length
/-- The bound, and the parts, of what came. -/
theorem play_bound {k : Nat} (hk : 2 ≤ k) (hk1 : k ≤ 1024) {p : Nat → Bool} (hp : Up p) (ds : List Sp) (j : Nat) (h : j ≤ ds.length) :
    ((k - 1) * exactN k p ds j ≤ k * estL p (play k ds j).2 ∧ k * estL p (play k ds j).2 ≤ (k + 1) * exactN k p ds j) ∧ sureL p 0 (play k ds j).2 ≤ exactN k p ds j ∧ exactN k p ds j ≤ sureL p 0 (play k ds j).2 + cutS p 0 (play k ds j).2 := by
  obtain ⟨us, h1, h2, _, h4⟩ := play_units k p ds j h
  rw [← h4]
  exact ⟨(play_made hk hk1 ds j h).bound hp h1 h2, rep_count hp h1 h2⟩
/-- No more than all units is sure, or cut. -/
theorem parts_le (p : Nat → Bool) : ∀ (L : Lv) (i : Nat), sureL p i L + cutS p i L ≤ totFrom i L
  | [], _ => Nat.le_refl _
  | l :: ls, i => by
    have ih := parts_le p ls (i + 1)
    have h : l.countP (sureP p) + l.countP (cutP p) ≤ l.length := by
      induction l with
      | nil => simp
      | cons b l ihl =>
        rw [List.countP_cons, List.countP_cons, List.length_cons]
        unfold sureP cutP at *
        cases p b.1 <;> cases p b.2 <;> simp <;> omega
    have := Nat.mul_le_mul_right (2 ^ i) h
    rw [Nat.add_mul] at this
    rw [sureL, cutS, totFrom]
    omega

end Go.Proofs.Lh
end
section
/- Plain mathematics of whether levels may be a histogram: what must be so; how many buckets there are; the bound. -/
namespace Go.Proofs.Lh
open Go.Proofs.Lm (Sp Turn)

/-! ### What must be so -/

/-- The level i has as many buckets as it may. -/
def levOk (k : Nat) (ls : Lv) (i : Nat) : Bool := decide (1 ≤ (lev ls i).length ∧ (lev ls i).length ≤ rm k i ∧ (i + 1 = ls.length ∨ rm k i - 1 ≤ (lev ls i).length))
def shapedB (k : Nat) (ls : Lv) : Bool := (List.range ls.length).all (levOk k ls) && decide (ls.length ≤ 52)
/-- In turn, from the tick a on. -/
def inTurn : Nat → List Sp → Bool
  | _, [] => true
  | a, b :: l => decide (b.1 ≤ b.2 ∧ a ≤ b.1 ∧ b.2 ≤ 9223372036854775807) && inTurn b.2 l
def flatB (ls : Lv) : Bool := (lev ls 0).all fun x => x.1 == x.2
def goodB (k : Nat) (ls : Lv) : Bool := shapedB k ls && (inTurn 0 (allOf ls) && flatB ls) && decide (tot ls ≤ 4503599627370496)
/-- What Hist answers. -/
def chk (k g : Int) (ls : Lv) : Nat := if (2 ≤ k ∧ k ≤ 1024) ∧ 0 ≤ g ∧ g ≤ 4 then (if goodB k.toNat ls = true then 0 else 2) else 9

theorem turn_in : ∀ {xs : List Sp} {a : Nat}, Turn xs → (∀ x ∈ xs, a ≤ x.1 ∧ x.2 ≤ 9223372036854775807) → inTurn a xs = true
  | [], _, _, _ => rfl
  | b :: l, a, h, hx => by
    have hb := hx b List.mem_cons_self
    have h1 := h.1 b List.mem_cons_self
    have h2 := List.pairwise_cons.1 h.2
    rw [inTurn, turn_in (turn_sub h (List.sublist_cons_self b l)) (fun x hxl => ⟨h2.1 x hxl, (hx x (List.mem_cons_of_mem _ hxl)).2⟩)]
    simp
    omega
theorem in_turn : ∀ {xs : List Sp} {a : Nat}, inTurn a xs = true → ∀ x ∈ xs, x.1 ≤ x.2 ∧ x.2 ≤ 9223372036854775807
  | [], _, _ => by simp
  | b :: l, a, h => by
    rw [inTurn, Bool.and_eq_true, decide_eq_true_iff] at h
    intro x hx
    rcases List.mem_cons.1 hx with rfl | hx
    · omega
    · exact in_turn h.2 x hx
theorem inTurn_app : ∀ {xs ys : List Sp} {a : Nat}, inTurn a (xs ++ ys) = (inTurn a xs && inTurn ((xs.getLast?.map (·.2)).getD a) ys)
  | [], ys, a => by simp [inTurn]
  | b :: l, ys, a => by
    rw [List.cons_append, inTurn, inTurn, inTurn_app (xs := l), Bool.and_assoc]
    congr 2
    cases l with
    | nil => simp
    | cons c l => simp [List.getLast?_cons]
theorem shaped_of {k : Nat} (hk : 1 ≤ k) {ls : Lv} (hs : Shape k 0 ls) (hl : ls.length ≤ 52) : shapedB k ls = true := by
  unfold shapedB
  rw [Bool.and_eq_true, decide_eq_true_iff]
  refine ⟨List.all_eq_true.2 fun i hi => ?_, hl⟩
  have hi := List.mem_range.1 hi
  obtain ⟨h1, h2, h3⟩ := shape_at hk i hs hi
  rw [Nat.zero_add] at h2 h3
  unfold levOk
  rw [decide_eq_true_iff]
  refine ⟨h1, h2, ?_⟩
  by_cases e : i + 1 = ls.length
  · exact .inl e
  · exact .inr (h3 e)
theorem flat_of {ls : Lv} (h : flat ls) : flatB ls = true := by
  unfold flatB
  rw [List.all_eq_true]
  intro x hx
  simpa using flat_at h x hx
theorem shape_more {k : Nat} (hk : 1 ≤ k) {ls : Lv} {i : Nat} (h : Shape k i ls) (h2 : 2 ≤ ls.length) : 2 ^ (ls.length - 1) + 1 ≤ tot ls := by
  match ls, h, h2 with
  | [], _, h2 => simp at h2
  | [_], _, h2 => simp at h2
  | l :: m :: r, h, _ =>
    have h1 := shape_head hk h
    have h3 := shape_many hk h.2.2 (by simp)
    rw [tot, List.length_cons, show (m :: r).length + 1 - 1 = (m :: r).length - 1 + 1 by simp, Nat.pow_succ]
    omega
theorem Made.len52 {k : Nat} {ls : Lv} (h : Made k ls) : ls.length ≤ 52 := by
  rcases Nat.lt_or_ge 52 ls.length with h1 | h1
  · have h2 := shape_more (by have := h.k2; omega) h.ok.shape (by omega)
    have h3 : 2 ^ 52 ≤ 2 ^ (ls.length - 1) := Nat.pow_le_pow_right (by omega) (by omega)
    have := h.small
    omega
  · exact h1
/-- What was made may be. -/
theorem Made.good {k : Nat} {ls : Lv} (h : Made k ls) (hm : ∀ x ∈ allOf ls, x.2 ≤ 9223372036854775807) : goodB k ls = true := by
  unfold goodB
  rw [shaped_of (by have := h.k2; omega) h.ok.shape h.len52, turn_in h.ok.turn (fun x hx => ⟨Nat.zero_le _, hm x hx⟩), flat_of h.ok.flat]
  simpa using h.small
theorem Made.chk {k : Nat} {ls : Lv} (h : Made k ls) (hm : ∀ x ∈ allOf ls, x.2 ≤ 9223372036854775807) : Lh.chk (k : Int) 0 ls = 0 := by
  have h1 := h.k2
  have h2 := h.k1
  unfold Lh.chk
  rw [if_pos ⟨⟨by omega, by omega⟩, by omega, by omega⟩, Int.toNat_natCast, h.good hm, if_pos rfl]
theorem chk_bad {k : Nat} {ls : Lv} (h2 : 2 ≤ k) (h1 : k ≤ 1024) (h : goodB k ls = false) : Lh.chk (k : Int) 0 ls = 2 := by
  unfold Lh.chk
  rw [if_pos ⟨⟨by omega, by omega⟩, by omega, by omega⟩, Int.toNat_natCast, h, if_neg (by simp)]
theorem all_drop (f w : Nat) (L : Lv) : allOf (dropL f w L) = cutL f w (allOf L) := by
  unfold dropL
  rw [trim_all, all_cut]
/-- No tick is later than the last one that came. -/
theorem play_all {k : Nat} (hk : 2 ≤ k) (hk1 : k ≤ 1024) (ds : List Sp) (j : Nat) (h : j ≤ ds.length) : ∀ x ∈ allOf (play k ds j).2, x.2 ≤ 1000 * j := by
  intro x hx
  have hm := play_made hk hk1 ds j h
  have ht := play_tick k ds j h
  have hp := play_last k hk hk1 ds j h
  cases hl : lastOf (play k ds j).2 with
  | none =>
    exfalso
    cases hL : (play k ds j).2 with
    | nil => rw [hL] at hx; cases hx
    | cons l ls =>
      rw [hL] at hl hm
      have h1 := shape_head (by omega) hm.ok.shape
      cases l with
      | nil => simp at h1
      | cons b l => simp [lastOf] at hl
  | some last =>
    have h1 := all_le hm.ok.turn hl x hx
    have h2 := hp last hl
    omega

/-! ### What breaks it -/

theorem good_not {k : Nat} {ls : Lv} (h : shapedB k ls = false ∨ inTurn 0 (allOf ls) = false) : goodB k ls = false := by
  unfold goodB
  rcases h with h | h <;> simp [h]
theorem turn_not {ls : Lv} {x : Sp} (hx : x ∈ allOf ls) (h : x.2 < x.1 ∨ 9223372036854775807 < x.2) : inTurn 0 (allOf ls) = false := by
  cases hb : inTurn 0 (allOf ls) with
  | false => rfl
  | true =>
    have := in_turn hb x hx
    omega
theorem empty_not (k : Nat) (L : Lv) : shapedB k (L ++ [[]]) = false := by
  unfold shapedB
  rw [Bool.and_eq_false_iff]
  left
  rw [List.all_eq_false]
  refine ⟨L.length, by simp, ?_⟩
  unfold levOk
  have : lev (L ++ [[]]) L.length = [] := by simp [lev]
  rw [this]
  simp

/-- Without its oldest bucket. -/
def oldOf (L : Lv) : Lv := if (lev L (L.length - 1)).length ≤ 1 then L.take (L.length - 1) else L.take (L.length - 1) ++ [(lev L (L.length - 1)).drop 1]
theorem shape_front {k : Nat} (hk : 1 ≤ k) : ∀ {A : Lv} {x : List Sp} {i : Nat}, Shape k i (A ++ [x]) → Shape k i A
  | [], _, _, _ => trivial
  | [a], x, i, h => by
    have h1 : rm k i - 1 ≤ a.length ∧ a.length ≤ rm k i ∧ _ := h
    have h2 := rm_two k i hk
    exact ⟨by omega, h1.2.1⟩
  | a :: b :: A, x, i, h => by
    have h1 : rm k i - 1 ≤ a.length ∧ a.length ≤ rm k i ∧ Shape k (i + 1) (b :: A ++ [x]) := h
    exact ⟨h1.1, h1.2.1, shape_front hk h1.2.2⟩
theorem shape_less {k : Nat} : ∀ {A : Lv} {x y : List Sp} {i : Nat}, Shape k i (A ++ [x]) → 1 ≤ y.length → y.length ≤ x.length → Shape k i (A ++ [y])
  | [], x, y, i, h, h1, h2 => by
    have h3 : 1 ≤ x.length ∧ x.length ≤ rm k i := h
    exact ⟨h1, by omega⟩
  | [a], x, y, i, h, h1, h2 => by
    have h3 : rm k i - 1 ≤ a.length ∧ a.length ≤ rm k i ∧ Shape k (i + 1) [x] := h
    exact ⟨h3.1, h3.2.1, shape_less (A := []) h3.2.2 h1 h2⟩
  | a :: b :: A, x, y, i, h, h1, h2 => by
    have h3 : rm k i - 1 ≤ a.length ∧ a.length ≤ rm k i ∧ Shape k (i + 1) (b :: A ++ [x]) := h
    exact ⟨h3.1, h3.2.1, shape_less h3.2.2 h1 h2⟩
theorem tot_snoc : ∀ (A : Lv) (x : List Sp), tot (A ++ [x]) = tot A + x.length * 2 ^ A.length
  | [], x => by simp [tot]
  | a :: A, x => by
    rw [List.cons_append, tot, tot, tot_snoc A x, List.length_cons, Nat.pow_succ, ← Nat.mul_assoc]
    omega
theorem all_snoc : ∀ (A : Lv) (x : List Sp), allOf (A ++ [x]) = x ++ allOf A
  | [], x => by simp [allOf]
  | a :: A, x => by rw [List.cons_append, allOf, allOf, all_snoc A x, List.append_assoc]
theorem snoc_lev {L : Lv} (h : L ≠ []) : L = L.take (L.length - 1) ++ [lev L (L.length - 1)] := by
  have hl : L.length - 1 < L.length := by
    have := List.length_pos_iff.2 h
    omega
  rw [lev_lt hl, ← List.take_succ_eq_append_getElem hl, show L.length - 1 + 1 = L.length by omega, List.take_length]
theorem flat_front {A : Lv} {x : List Sp} (h : flat (A ++ [x])) : flat A := by
  cases A with
  | nil => trivial
  | cons a A => exact h
theorem flat_less {A : Lv} {x y : List Sp} (h : flat (A ++ [x])) (hy : ∀ z ∈ y, z ∈ x) : flat (A ++ [y]) := by
  cases A with
  | nil => exact fun z hz => h z (hy z hz)
  | cons a A => exact h
theorem Made.old {k : Nat} {L : Lv} (h : Made k L) (hn : L ≠ []) : Made k (oldOf L) ∧ ∀ x ∈ allOf (oldOf L), x ∈ allOf L := by
  have e := snoc_lev hn
  obtain ⟨A, hA⟩ : ∃ A, L.take (L.length - 1) = A := ⟨_, rfl⟩
  obtain ⟨x, hx⟩ : ∃ x, Lh.lev L (L.length - 1) = x := ⟨_, rfl⟩
  rw [hA, hx] at e
  unfold oldOf
  rw [hA, hx]
  have hs := h.ok.shape
  have ht := h.ok.turn
  have hf := h.ok.flat
  have htot := h.small
  have hk := h.k2
  rw [e] at hs ht hf htot
  rw [e, all_snoc]
  rw [all_snoc] at ht
  rw [tot_snoc] at htot
  split
  · exact ⟨⟨h.k2, h.k1, ⟨shape_front (by omega) hs, turn_sub ht (List.sublist_append_right x _), flat_front hf⟩, by omega⟩, fun y hy => List.mem_append_right _ hy⟩
  · rename_i hl
    have hd : (x.drop 1).Sublist x := List.drop_sublist 1 x
    have hdl : (x.drop 1).length = x.length - 1 := by simp
    refine ⟨⟨h.k2, h.k1, ⟨shape_less hs (by omega) (by omega), ?_, flat_less hf fun z hz => hd.subset hz⟩, ?_⟩, fun y hy => ?_⟩
    · rw [all_snoc]
      exact turn_sub ht (hd.append (List.Sublist.refl _))
    · rw [tot_snoc]
      have := Nat.mul_le_mul_right (2 ^ A.length) (show (x.drop 1).length ≤ x.length by omega)
      omega
    · rw [all_snoc] at hy
      rcases List.mem_append.1 hy with hy | hy
      · exact List.mem_append_left _ (hd.subset hy)
      · exact List.mem_append_right _ hy

/-! ### How many buckets there are, and the bound -/

def cnt : Lv → Nat
  | [] => 0
  | l :: ls => l.length + cnt ls
theorem cnt_app : ∀ a b : Lv, cnt (a ++ b) = cnt a + cnt b
  | [], b => by simp [cnt]
  | l :: a, b => by rw [List.cons_append, cnt, cnt, cnt_app a b]; omega
theorem cnt_take {ls : Lv} {i : Nat} (h : i < ls.length) : cnt (ls.take (i + 1)) = cnt (ls.take i) + ls[i].length := by
  rw [List.take_succ_eq_append_getElem h, cnt_app]
  simp [cnt]
theorem cnt_few {k : Nat} (hk : 1 ≤ k) : ∀ {ls : Lv} {i : Nat}, Few k i ls → cnt ls ≤ (k + 1) * ls.length
  | [], _, _ => by simp [cnt]
  | l :: ls, i, h => by
    have h1 : l.length ≤ rm k i := h.1
    have h2 := cnt_few hk h.2
    have h3 : rm k i ≤ k + 1 := by unfold rm; split <;> omega
    rw [cnt, List.length_cons, Nat.mul_add]
    omega

/-- How many binary digits a number has. -/
def digs (n : Nat) : Nat := if h : n = 0 then 0 else 1 + digs (n / 2)
termination_by n
theorem digs_zero : digs 0 = 0 := by rw [digs]; simp
theorem digs_pos {n : Nat} (h : n ≠ 0) : digs n = 1 + digs (n / 2) := by rw [digs, dif_neg h]
theorem digs_mono : ∀ (a b : Nat), a ≤ b → digs a ≤ digs b := by
  intro a
  induction a using Nat.strongRecOn with
  | _ a ih =>
    intro b h
    by_cases ha : a = 0
    · rw [ha, digs_zero]; exact Nat.zero_le _
    · have := ih (a / 2) (by omega) (b / 2) (by omega)
      rw [digs_pos ha, digs_pos (n := b) (by omega)]
      omega
theorem digs_two {n : Nat} (h : n ≠ 0) : digs (2 * n) = digs n + 1 := by
  rw [digs_pos (by omega), show 2 * n / 2 = n by omega]
  omega
theorem digs_pow : ∀ m : Nat, digs (2 ^ m) = m + 1
  | 0 => by rw [Nat.pow_zero, digs_pos (by omega), show 1 / 2 = 0 by omega, digs_zero]
  | m + 1 => by rw [Nat.pow_succ, Nat.mul_comm, digs_two (by have := Nat.two_pow_pos m; omega), digs_pow m]
theorem digs_le : ∀ (m n : Nat), n < 2 ^ m → digs n ≤ m
  | 0, n, h => by rw [show n = 0 by simp at h; omega, digs_zero]; exact Nat.le_refl _
  | m + 1, n, h => by
    by_cases hn : n = 0
    · rw [hn, digs_zero]; exact Nat.zero_le _
    · rw [Nat.pow_succ] at h
      have := digs_le m (n / 2) (by omega)
      rw [digs_pos hn]
      omega
theorem pow_digs {m n : Nat} (h : 2 ^ m ≤ n) : m + 1 ≤ digs n := by
  have := digs_mono _ _ h
  rw [digs_pow] at this
  exact this
/-- The bound. -/
def boundN (k g : Int) (n : Nat) : Nat := if n ≠ 0 ∧ (2 ≤ k ∧ k ≤ 1024) ∧ 0 ≤ g ∧ g ≤ 4 then (k.toNat + 1) * (digs n + g.toNat) else 0

theorem cut_last {p : Nat → Bool} (hp : Up p) {k : Nat} (hk : 1 ≤ k) : ∀ {D : Lv} {i : Nat}, Shape k i D → Turn (allOf D) → (∀ b ∈ allOf D, p b.2 = true) → D ≠ [] → cutS p i D = 0 ∨ 2 ^ (i + D.length - 1) ≤ cutS p i D
  | [], _, _, _, _, h => absurd rfl h
  | [l], i, _, _, _, _ => by
    rw [cutS, cutS, Nat.add_zero, List.length_singleton, show i + 1 - 1 = i by omega]
    rcases Nat.eq_zero_or_pos (l.countP (cutP p)) with e | e
    · left; rw [e, Nat.zero_mul]
    · right; exact Nat.le_mul_of_pos_left _ e
  | l :: m :: r, i, hs, ht, hb, _ => by
    have htt := ht
    rw [allOf] at htt
    obtain ⟨t1, t2, t3⟩ := turn_app.1 htt
    have hs2 := hs.2.2
    have hm := shape_head hk hs2
    obtain ⟨a, ha⟩ : ∃ a, a ∈ m := by
      cases m with
      | nil => simp at hm
      | cons a m => exact ⟨a, List.mem_cons_self⟩
    have ha2 : a ∈ allOf (m :: r) := by rw [allOf]; exact List.mem_append_right _ ha
    have hpa := hb a (by rw [allOf]; exact List.mem_append_left _ ha2)
    obtain ⟨_, e2⟩ := later_sure hp hpa (fun b hb' => t3 a ha2 b hb')
    have ih := cut_last hp hk hs2 t1 (fun b hb' => hb b (by rw [allOf]; exact List.mem_append_left _ hb')) (by simp)
    rw [cutS, e2, Nat.zero_mul, Nat.zero_add]
    rw [show i + (l :: m :: r).length - 1 = i + 1 + (m :: r).length - 1 by simp; omega]
    exact ih
theorem parts_all {p : Nat → Bool} : ∀ {D : Lv} {i : Nat}, (∀ b ∈ allOf D, p b.2 = true) → sureL p i D + cutS p i D = totFrom i D
  | [], _, _ => rfl
  | l :: ls, i, hb => by
    have ih := parts_all (D := ls) (i := i + 1) (fun b h => hb b (by rw [allOf]; exact List.mem_append_left _ h))
    have h : l.countP (sureP p) + l.countP (cutP p) = l.length := by
      have hl : ∀ b ∈ l, p b.2 = true := fun b h => hb b (by rw [allOf]; exact List.mem_append_right _ h)
      clear ih hb
      induction l with
      | nil => simp
      | cons b l ihl =>
        have h1 := hl b List.mem_cons_self
        have h2 := ihl fun c hc => hl c (List.mem_cons_of_mem _ hc)
        rw [List.countP_cons, List.countP_cons, List.length_cons]
        unfold sureP cutP at *
        rw [h1]
        cases p b.1 <;> simp <;> omega
    rw [sureL, cutS, totFrom, ← ih, ← h, Nat.add_mul]
    omega
/-- What isn't old. -/
def newB (f w t : Nat) : Bool := !oldB t f w
theorem new_up (f w : Nat) : Up (newB f w) := by
  intro a b h ha
  unfold newB oldB at *
  simp at *
  omega
/-- SMALL: the levels that are left are no more than the digits of what came and isn't old. -/
theorem Made.few_left {k : Nat} {L : Lv} (h : Made k L) (f w : Nat) {us : List Nat} (hr : Rep 0 L us) (hs : us.Pairwise (· ≤ ·)) (hn : dropL f w L ≠ []) : 2 ^ ((dropL f w L).length - 1) ≤ us.countP (newB f w) := by
  have hp := new_up f w
  have hd := h.drop f w
  have hk := h.k2
  have h1 := (rep_count hp hr hs).1
  have h2 := (parts_drop hp (f := f) (w := w) h.ok.turn (fun x hx => by unfold newB; rw [hx]; rfl)).1
  rw [← h2] at h1
  have hb : ∀ b ∈ allOf (dropL f w L), newB f w b.2 = true := by
    intro b hb
    rw [all_drop] at hb
    unfold cutL at hb
    exact (List.mem_filter.1 hb).2
  have h3 := parts_all (i := 0) hb
  rw [tot_eq] at h3
  have h4 := shape_many (by omega) hd.ok.shape hn
  have h5 := (hd.cut hp).1
  rcases cut_last hp (by omega) hd.ok.shape hd.ok.turn hb hn with e | e
  · omega
  · rw [Nat.zero_add] at e
    generalize cutS (newB f w) 0 (dropL f w L) = c at *
    generalize sureL (newB f w) 0 (dropL f w L) = s at *
    have : 2 * c ≤ k * c := Nat.mul_le_mul_right _ hk
    omega
theorem Made.small_left {k : Nat} {L : Lv} (h : Made k L) (f w : Nat) {us : List Nat} (hr : Rep 0 L us) (hs : us.Pairwise (· ≤ ·)) : cnt (dropL f w L) ≤ boundN k 0 (us.countP (newB f w)) ∧ (us.countP (newB f w) = 0 → cnt (dropL f w L) = 0) := by
  have hk := h.k2
  have hk1 := h.k1
  by_cases hn : dropL f w L = []
  · rw [hn]
    exact ⟨Nat.zero_le _, fun _ => rfl⟩
  · have h1 := h.few_left f w hr hs hn
    have h2 := cnt_few (by omega) (h.drop f w).few
    have h3 := pow_digs h1
    have hl := List.length_pos_iff.2 hn
    have h4 : 0 < us.countP (newB f w) := Nat.lt_of_lt_of_le (Nat.two_pow_pos _) h1
    refine ⟨?_, fun e => by omega⟩
    unfold boundN
    rw [if_pos ⟨by omega, ⟨by omega, by omega⟩, by omega, by omega⟩, Int.toNat_natCast]
    refine Nat.le_trans h2 (Nat.mul_le_mul_left _ ?_)
    simp
    omega
theorem play_small {k : Nat} (hk : 2 ≤ k) (hk1 : k ≤ 1024) (f w : Nat) (ds : List Sp) (j : Nat) (h : j ≤ ds.length) :
    cnt (dropL f w (play k ds j).2) ≤ boundN k 0 (exactN k (newB f w) ds j) ∧ (exactN k (newB f w) ds j = 0 → cnt (dropL f w (play k ds j).2) = 0) := by
  obtain ⟨us, h1, h2, _, h4⟩ := play_units k (newB f w) ds j h
  rw [← h4]
  exact (play_made hk hk1 ds j h).small_left f w h1 h2

/-! ### The bound grows -/

theorem bound_mono (k g : Int) {a b : Nat} (h : a ≤ b) : boundN k g a ≤ boundN k g b := by
  unfold boundN
  have := digs_mono a b h
  split
  · rename_i h1
    rw [if_pos ⟨by omega, h1.2⟩]
    exact Nat.mul_le_mul_left _ (by omega)
  · exact Nat.zero_le _
theorem bound_two {k : Nat} (hk : 2 ≤ k) (hk1 : k ≤ 1024) {g : Nat} (hg : g ≤ 4) {n : Nat} (hn : n ≠ 0) : boundN k g (2 * n) = boundN k g n + k + 1 := by
  unfold boundN
  rw [if_pos ⟨by omega, ⟨by omega, by omega⟩, by omega, by omega⟩, if_pos ⟨hn, ⟨by omega, by omega⟩, by omega, by omega⟩, digs_two hn, Int.toNat_natCast, Int.toNat_natCast, show digs n + 1 + g = digs n + g + 1 by omega, Nat.mul_add]
  omega
theorem bound_gen {k : Nat} (hk : 2 ≤ k) (hk1 : k ≤ 1024) {g : Nat} (hg : g + 1 ≤ 4) {n : Nat} (hn : n ≠ 0) : boundN k ((g + 1 : Nat) : Int) n = boundN k g n + k + 1 := by
  unfold boundN
  rw [if_pos ⟨hn, ⟨by omega, by omega⟩, by omega, by omega⟩, if_pos ⟨hn, ⟨by omega, by omega⟩, by omega, by omega⟩, Int.toNat_natCast, Int.toNat_natCast, Int.toNat_natCast, ← Nat.add_assoc, Nat.mul_add]
  omega
theorem bound_none (k g : Int) : boundN k g 0 = 0 := by simp [boundN]

end Go.Proofs.Lh
end
section
/- Plain mathematics of histograms that are merged: units that are moved to a bucket's last tick, and the bound, merge by merge. -/
namespace Go.Proofs.Lh
open Go.Proofs.Lm (Sp Turn)

/-! ### The histogram of units that come one by one -/

def histOf (k : Nat) (us : List Nat) : Lv := addL k 0 [] (us.map fun t => (t, t))
theorem histOf_app (k : Nat) (a b : List Nat) : histOf k (a ++ b) = addL k 0 (histOf k a) (b.map fun t => (t, t)) := by
  unfold histOf
  rw [List.map_append, addL_app]
theorem histOf_add (k : Nat) (us : List Nat) (t n : Nat) : addW k (histOf k us) t n = histOf k (us ++ List.replicate n t) := by
  rw [histOf_app, List.map_replicate]
  rfl
theorem histOf_nil (k : Nat) : histOf k [] = [] := by
  unfold histOf
  rw [List.map_nil, addL, newL_nil]
theorem seg_map : ∀ us : List Nat, Seg 0 (us.map fun t => (t, t)) us
  | [] => rfl
  | t :: us => ⟨[t], us, rfl, rfl, rfl, rfl, seg_map us⟩
theorem rep_histOf (k : Nat) (us : List Nat) : Rep 0 (histOf k us) us := by
  have := rep_add k (ls := []) (i := 0) (uo := []) rfl (seg_map us)
  exact this
theorem tot_histOf (k : Nat) (us : List Nat) : tot (histOf k us) = us.length := by
  unfold histOf
  rw [addL_tot]
  simp [tot]
theorem flat_histOf (k : Nat) (us : List Nat) : flat (histOf k us) := by
  suffices h : ∀ n (us : List Nat), us.length = n → flat (histOf k us) from h _ us rfl
  intro n
  induction n with
  | zero =>
    intro us h
    rw [List.eq_nil_of_length_eq_zero h, histOf_nil]
    trivial
  | succ n ih =>
    intro us h
    obtain ⟨v, t, rfl⟩ : ∃ v t, us = v ++ [t] := by
      rcases List.eq_nil_or_concat us with e | ⟨v, t, e⟩
      · rw [e] at h; simp at h
      · exact ⟨v, t, by rw [e]; simp⟩
    have := addW_flat k (histOf k v) t 1 (ih v (by simpa using h))
    rw [histOf_add] at this
    exact this
theorem made_histOf {k : Nat} (h2 : 2 ≤ k) (h1 : k ≤ 1024) {us : List Nat} (hs : us.Pairwise (· ≤ ·)) (hl : us.length ≤ 4503599627370496) : Made k (histOf k us) := by
  refine ⟨h2, h1, ⟨addL_shape k (by omega) [] 0 _ trivial, ?_, flat_histOf k us⟩, by rw [tot_histOf]; exact hl⟩
  have ht : Turn (us.map fun t => (t, t)) := by
    refine ⟨fun x hx => ?_, ?_⟩
    · obtain ⟨t, _, rfl⟩ := List.mem_map.1 hx
      exact Nat.le_refl _
    · rw [List.pairwise_map]
      exact hs
  have := addL_turn k [] 0 (us.map fun t => (t, t)) [] (by simpa [allOf] using ht)
  rw [List.append_nil] at this
  exact this

/-! ### Lumps: units of one tick -/

def unitsOf (ls : List Sp) : List Nat := ls.flatMap fun x => List.replicate x.2 x.1
theorem units_app (a b : List Sp) : unitsOf (a ++ b) = unitsOf a ++ unitsOf b := by simp [unitsOf]
theorem units_snoc (a : List Sp) (x : Sp) : unitsOf (a ++ [x]) = unitsOf a ++ List.replicate x.2 x.1 := by simp [unitsOf]
/-- Lumps that come one behind the other. -/
theorem fold_lumps (k : Nat) (ls : List Sp) : ls.foldl (fun L x => addW k L x.1 x.2) [] = histOf k (unitsOf ls) := by
  suffices h : ∀ (ls : List Sp) (us : List Nat), ls.foldl (fun L x => addW k L x.1 x.2) (histOf k us) = histOf k (us ++ unitsOf ls) by
    have := h ls []
    rw [histOf_nil, List.nil_append] at this
    exact this
  intro ls
  induction ls with
  | nil => intro us; simp [unitsOf]
  | cons x ls ih =>
    intro us
    rw [List.foldl_cons, histOf_add, ih, List.append_assoc]
    rfl
theorem units_sorted {ls : List Sp} (h : ls.Pairwise fun x y => x.1 ≤ y.1) : (unitsOf ls).Pairwise (· ≤ ·) := by
  induction ls with
  | nil => exact List.Pairwise.nil
  | cons x ls ih =>
    have hp := List.pairwise_cons.1 h
    have e : unitsOf (x :: ls) = List.replicate x.2 x.1 ++ unitsOf ls := rfl
    rw [e, List.pairwise_append]
    refine ⟨?_, ih hp.2, fun a ha b hb => ?_⟩
    · rw [List.pairwise_replicate]
      exact .inr (Nat.le_refl _)
    · rw [List.eq_of_mem_replicate ha]
      obtain ⟨y, hy, hb⟩ := List.mem_flatMap.1 hb
      rw [List.eq_of_mem_replicate hb]
      exact hp.1 y hy
theorem units_perm {a b : List Sp} (h : a.Perm b) : (unitsOf a).Perm (unitsOf b) := h.flatMap_right _
/-- In whatever turn lumps of one tick come, it is the same. -/
theorem units_eq {a b : List Sp} (h : a.Perm b) (ha : a.Pairwise fun x y => x.1 ≤ y.1) (hb : b.Pairwise fun x y => x.1 ≤ y.1) : unitsOf a = unitsOf b :=
  List.Perm.eq_of_pairwise (le := (· ≤ ·)) (fun _ _ _ _ h1 h2 => Nat.le_antisymm h1 h2) (units_sorted ha) (units_sorted hb) (units_perm h)
theorem hist_perm (k : Nat) {a b : List Sp} (h : a.Perm b) (ha : a.Pairwise fun x y => x.1 ≤ y.1) (hb : b.Pairwise fun x y => x.1 ≤ y.1) : a.foldl (fun L x => addW k L x.1 x.2) [] = b.foldl (fun L x => addW k L x.1 x.2) [] := by
  rw [fold_lumps, fold_lumps, units_eq h ha hb]

/-- A histogram's buckets, each as a lump of its last tick, the oldest one first. -/
def lumpsOf : Nat → Lv → List Sp
  | _, [] => []
  | i, l :: ls => lumpsOf (i + 1) ls ++ l.map fun b => (b.2, 2 ^ i)
theorem map_count {p : Nat → Bool} (hp : Up p) (i : Nat) : ∀ {l : List Sp}, (∀ b ∈ l, b.1 ≤ b.2) → (unitsOf (l.map fun b => (b.2, 2 ^ i))).countP p = l.countP (sureP p) * 2 ^ i + l.countP (cutP p) * 2 ^ i
  | [], _ => by simp [unitsOf]
  | b :: l, h => by
    have ih := map_count hp i (l := l) fun c hc => h c (List.mem_cons_of_mem _ hc)
    have e : unitsOf ((b :: l).map fun b => (b.2, 2 ^ i)) = List.replicate (2 ^ i) b.2 ++ unitsOf (l.map fun b => (b.2, 2 ^ i)) := rfl
    have hb := h b List.mem_cons_self
    rw [e, List.countP_append, ih, List.countP_replicate, List.countP_cons, List.countP_cons]
    unfold sureP cutP
    cases h1 : p b.1 with
    | true =>
      have h2 := hp _ _ hb h1
      rw [h2]
      simp [Nat.add_mul]
      omega
    | false =>
      cases h2 : p b.2 with
      | true =>
        simp [Nat.add_mul]
        omega
      | false => simp
theorem lumps_count {p : Nat → Bool} (hp : Up p) : ∀ {L : Lv} {i : Nat}, (∀ b ∈ allOf L, b.1 ≤ b.2) → (unitsOf (lumpsOf i L)).countP p = sureL p i L + cutS p i L
  | [], _, _ => by simp [lumpsOf, unitsOf, sureL, cutS]
  | l :: ls, i, h => by
    have h1 := lumps_count hp (L := ls) (i := i + 1) fun b hb => h b (by rw [allOf]; exact List.mem_append_left _ hb)
    have h2 := map_count hp i (l := l) fun b hb => h b (by rw [allOf]; exact List.mem_append_right _ hb)
    rw [lumpsOf, units_app, List.countP_append, h1, h2, sureL, cutS]
    omega
theorem lumps_len : ∀ (L : Lv) (i : Nat), (unitsOf (lumpsOf i L)).length = totFrom i L
  | [], _ => rfl
  | l :: ls, i => by
    have h1 := lumps_len ls (i + 1)
    have h2 : ∀ l : List Sp, (unitsOf (l.map fun b => (b.2, 2 ^ i))).length = l.length * 2 ^ i := by
      intro l
      induction l with
      | nil => simp [unitsOf]
      | cons b l ih =>
        have e : unitsOf ((b :: l).map fun b => (b.2, 2 ^ i)) = List.replicate (2 ^ i) b.2 ++ unitsOf (l.map fun b => (b.2, 2 ^ i)) := rfl
        rw [e, List.length_append, ih, List.length_replicate, List.length_cons, Nat.add_mul]
        omega
    rw [lumpsOf, units_app, List.length_append, h1, h2, totFrom]
    omega
/-- The lumps of one histogram stand in turn. -/
theorem lumps_mem : ∀ {L : Lv} {i : Nat} {x : Sp}, x ∈ lumpsOf i L → ∃ b ∈ allOf L, x.1 = b.2
  | [], _, _, h => by cases h
  | l :: ls, i, x, h => by
    rw [lumpsOf] at h
    rcases List.mem_append.1 h with h | h
    · obtain ⟨b, hb, e⟩ := lumps_mem h
      exact ⟨b, by rw [allOf]; exact List.mem_append_left _ hb, e⟩
    · obtain ⟨b, hb, rfl⟩ := List.mem_map.1 h
      exact ⟨b, by rw [allOf]; exact List.mem_append_right _ hb, rfl⟩
theorem lumps_turn : ∀ {L : Lv} {i : Nat}, Turn (allOf L) → (lumpsOf i L).Pairwise fun x y => x.1 ≤ y.1
  | [], _, _ => List.Pairwise.nil
  | l :: ls, i, h => by
    rw [allOf] at h
    obtain ⟨h1, h2, h3⟩ := turn_app.1 h
    rw [lumpsOf, List.pairwise_append]
    refine ⟨lumps_turn h1, ?_, fun x hx y hy => ?_⟩
    · rw [List.pairwise_map]
      exact h2.2.imp_of_mem fun {a b} _ hb hab => Nat.le_trans hab (h2.1 b hb)
    · obtain ⟨a, ha, e⟩ := lumps_mem hx
      obtain ⟨b, hb, rfl⟩ := List.mem_map.1 hy
      rw [e]
      exact Nat.le_trans (h3 a ha b hb) (h2.1 b hb)

/-! ### Merge by merge -/

/-- A histogram of Gen g, to whose parts so much really came within. -/
structure Stands (k g : Nat) (L : Lv) (N : (Nat → Bool) → Nat) : Prop where
  made : Made k L
  rep : ∃ us, Rep 0 L us ∧ us.Pairwise (· ≤ ·) ∧ ∀ p, Up p → N p ≤ us.countP p ∧ k ^ g * us.countP p ≤ (k + 2) ^ g * N p
theorem Stands.mono {k g g' : Nat} {L : Lv} {N : (Nat → Bool) → Nat} (h : Stands k g L N) (hg : g ≤ g') : Stands k g' L N := by
  obtain ⟨hm, us, h1, h2, h3⟩ := h
  refine ⟨hm, us, h1, h2, fun p hp => ⟨(h3 p hp).1, ?_⟩⟩
  obtain ⟨d, rfl⟩ : ∃ d, g' = g + d := ⟨g' - g, by omega⟩
  have h4 := (h3 p hp).2
  have h5 : k ^ d ≤ (k + 2) ^ d := Nat.pow_le_pow_left (by omega) d
  rw [Nat.pow_add, Nat.pow_add, Nat.mul_right_comm, Nat.mul_right_comm ((k + 2) ^ g)]
  exact Nat.mul_le_mul h4 h5
/-- THE BOUND, of any Gen. -/
theorem Stands.bound {k g : Nat} {L : Lv} {N : (Nat → Bool) → Nat} (h : Stands k g L N) {p : Nat → Bool} (hp : Up p) :
    (k - 1) * N p ≤ k * estL p L ∧ k ^ (g + 1) * estL p L ≤ (k + 1) * (k + 2) ^ g * N p := by
  obtain ⟨hm, us, h1, h2, h3⟩ := h
  obtain ⟨h4, h5⟩ := h3 p hp
  obtain ⟨h6, h7⟩ := hm.bound hp h1 h2
  refine ⟨Nat.le_trans (Nat.mul_le_mul_left _ h4) h6, ?_⟩
  have e1 : k ^ (g + 1) * estL p L = k ^ g * (k * estL p L) := by rw [Nat.pow_succ, Nat.mul_assoc]
  have e2 := Nat.mul_le_mul_left (k ^ g) h7
  have e3 : k ^ g * ((k + 1) * us.countP p) = (k + 1) * (k ^ g * us.countP p) := by rw [Nat.mul_left_comm]
  have e4 := Nat.mul_le_mul_left (k + 1) h5
  rw [e1, Nat.mul_assoc]
  exact Nat.le_trans (by rw [← e3]; exact e2) e4
/-- What is sure, and what is cut, are no less than what really came. -/
theorem Stands.never {k g : Nat} {L : Lv} {N : (Nat → Bool) → Nat} (h : Stands k g L N) {p : Nat → Bool} (hp : Up p) : N p ≤ sureL p 0 L + cutS p 0 L := by
  obtain ⟨_, us, h1, h2, h3⟩ := h
  exact Nat.le_trans (h3 p hp).1 (rep_count hp h1 h2).2
theorem Stands.none {k g : Nat} {L : Lv} {N : (Nat → Bool) → Nat} (h : Stands k g L N) {p : Nat → Bool} (hp : Up p) (hn : N p = 0) : estL p L = 0 := by
  have hk := h.made.k2
  have h1 := (h.bound hp).2
  rw [hn, Nat.mul_zero] at h1
  rcases Nat.mul_eq_zero.1 (Nat.le_zero.1 h1) with e | e
  · have := Nat.pow_pos (n := g + 1) (show 0 < k by omega)
    omega
  · exact e
theorem sum_le {α : Type} (f g : α → Nat) : ∀ {l : List α}, (∀ x ∈ l, f x ≤ g x) → (l.map f).sum ≤ (l.map g).sum
  | [], _ => Nat.le_refl _
  | x :: l, h => by
    rw [List.map_cons, List.map_cons, List.sum_cons, List.sum_cons]
    exact Nat.add_le_add (h x List.mem_cons_self) (sum_le f g fun y hy => h y (List.mem_cons_of_mem _ hy))
theorem mul_sum {α : Type} (c : Nat) (f : α → Nat) : ∀ l : List α, c * (l.map f).sum = (l.map fun x => c * f x).sum
  | [] => by simp
  | x :: l => by rw [List.map_cons, List.sum_cons, Nat.mul_add, mul_sum c f l, List.map_cons, List.sum_cons]
theorem units_flat {α : Type} (f : α → List Sp) : ∀ l : List α, unitsOf (l.flatMap f) = l.flatMap fun x => unitsOf (f x)
  | [] => rfl
  | x :: l => by rw [List.flatMap_cons, units_app, units_flat f l, List.flatMap_cons]
/-- A merge. -/
theorem merge_stands {k g : Nat} (h2 : 2 ≤ k) (h1 : k ≤ 1024) {Ps : List (Lv × ((Nat → Bool) → Nat))} (hP : ∀ P ∈ Ps, Stands k g P.1 P.2) (hl : (Ps.map fun P => tot P.1).sum ≤ 4503599627370496) {all : List Sp} (ha : all.Perm (Ps.flatMap fun P => lumpsOf 0 P.1)) (hs : all.Pairwise fun x y => x.1 ≤ y.1) :
    Stands k (g + 1) (all.foldl (fun L x => addW k L x.1 x.2) []) (fun p => (Ps.map fun P => P.2 p).sum) ∧ tot (all.foldl (fun L x => addW k L x.1 x.2) []) = (Ps.map fun P => tot P.1).sum := by
  have hu := units_perm ha
  have hlen : (unitsOf all).length = (Ps.map fun P => tot P.1).sum := by
    rw [hu.length_eq, units_flat, List.length_flatMap]
    congr 1
    refine List.map_congr_left fun P _ => ?_
    rw [lumps_len, tot_eq]
  rw [fold_lumps]
  refine ⟨⟨made_histOf h2 h1 (units_sorted hs) (by rw [hlen]; exact hl), unitsOf all, rep_histOf k _, units_sorted hs, fun p hp => ?_⟩, by rw [tot_histOf, hlen]⟩
  have hc : (unitsOf all).countP p = (Ps.map fun P => sureL p 0 P.1 + cutS p 0 P.1).sum := by
    rw [hu.countP_eq, units_flat, List.countP_flatMap]
    congr 1
    refine List.map_congr_left fun P hP' => ?_
    exact lumps_count hp (hP P hP').made.ok.turn.1
  rw [hc]
  refine ⟨sum_le _ _ fun P hP' => (hP P hP').never hp, ?_⟩
  rw [mul_sum, mul_sum]
  refine sum_le _ _ fun P hP' => ?_
  obtain ⟨hm, us, r1, r2, r3⟩ := hP P hP'
  obtain ⟨c1, _⟩ := hm.cut hp
  have c3 := (rep_count hp r1 r2).1
  have c4 := (r3 p hp).2
  generalize sureL p 0 P.1 = s at *
  generalize cutS p 0 P.1 = c at *
  generalize us.countP p = M at *
  generalize P.2 p = n at *
  -- k (s + c) ≤ (k + 2) s ≤ (k + 2) M
  have d1 : k * (s + c) ≤ (k + 2) * M := by
    have := Nat.mul_le_mul_left (k + 2) c3
    have e : (k + 2) * s = k * s + 2 * s := Nat.add_mul k 2 s
    rw [Nat.mul_add]
    omega
  have d2 := Nat.mul_le_mul_left (k ^ g) d1
  have d3 := Nat.mul_le_mul_left (k + 2) c4
  rw [Nat.pow_succ, Nat.pow_succ, Nat.mul_assoc]
  refine Nat.le_trans d2 ?_
  rw [Nat.mul_left_comm]
  refine Nat.le_trans d3 ?_
  rw [Nat.mul_left_comm, Nat.mul_assoc]
  exact Nat.le_refl _

/-- What comes deed by deed, for all that may be asked. -/
theorem play_rep (k : Nat) (ds : List Sp) : ∀ j, j ≤ ds.length → ∃ us : List Nat, Rep 0 (play k ds j).2 us ∧ us.Pairwise (· ≤ ·) ∧ (∀ u ∈ us, u ≤ (play k ds j).1) ∧ ∀ p, us.countP p = exactN k p ds j
  | 0, _ => ⟨[], by rw [play_zero]; rfl, List.Pairwise.nil, by simp, fun p => by rw [exact_zero]; rfl⟩
  | j + 1, h => by
    obtain ⟨us, h1, h2, h3, h4⟩ := play_rep k ds j (by omega)
    rw [play_succ k ds j (by omega), step_tick, step_levs]
    have hx := fun p => exact_succ k p ds j (show j < ds.length by omega)
    generalize ds[j]'(by omega) = d at *
    obtain ⟨t, ht⟩ : ∃ t, (play k ds j).1 + d.1 % 1000 = t := ⟨_, rfl⟩
    simp only [ht] at hx
    rw [ht]
    by_cases hc : code (play k ds j).2 t d.2 = 0
    · rw [if_pos hc]
      refine ⟨us ++ List.replicate d.2 t, rep_addW k h1 t d.2, ?_, ?_, ?_⟩
      · rw [List.pairwise_append]
        refine ⟨h2, ?_, ?_⟩
        · rw [List.pairwise_replicate]
          exact .inr (Nat.le_refl _)
        · intro a ha b hb
          have := h3 a ha
          rw [List.eq_of_mem_replicate hb]
          omega
      · intro u hu
        rcases List.mem_append.1 hu with hu | hu
        · have := h3 u hu
          omega
        · rw [List.eq_of_mem_replicate hu]
          exact Nat.le_refl _
      · intro p
        rw [hx p, List.countP_append, h4, List.countP_replicate]
        cases hp : p t with
        | true => rw [if_pos rfl, if_pos ⟨hc, rfl⟩]
        | false => rw [if_neg (by simp), if_neg (by simp)]; rfl
    · rw [if_neg hc]
      exact ⟨us, h1, h2, fun u hu => by have := h3 u hu; omega, fun p => by rw [hx p, if_neg (fun h => hc h.1), h4]⟩
theorem play_stands {k : Nat} (hk : 2 ≤ k) (hk1 : k ≤ 1024) (ds : List Sp) (j : Nat) (h : j ≤ ds.length) : Stands k 0 (play k ds j).2 (fun p => exactN k p ds j) := by
  obtain ⟨us, h1, h2, _, h4⟩ := play_rep k ds j h
  refine ⟨play_made hk hk1 ds j h, us, h1, h2, fun p _ => ?_⟩
  rw [h4 p, Nat.pow_zero, Nat.pow_zero]
  exact ⟨Nat.le_refl _, Nat.le_refl _⟩
/-- SMALL: the buckets of any histogram that was made. -/
theorem Made.small_all {k : Nat} {L : Lv} (h : Made k L) {g : Nat} (hg : g ≤ 4) : cnt L ≤ boundN k g (tot L) := by
  have hk := h.k2
  have hk1 := h.k1
  by_cases hn : L = []
  · rw [hn]; exact Nat.zero_le _
  · have h1 := shape_many (by omega) h.ok.shape hn
    have h2 := cnt_few (by omega) h.few
    have h3 := pow_digs h1
    have hl := List.length_pos_iff.2 hn
    have h4 : 0 < tot L := Nat.lt_of_lt_of_le (Nat.two_pow_pos _) h1
    unfold boundN
    rw [if_pos ⟨by omega, ⟨by omega, by omega⟩, by omega, by omega⟩, Int.toNat_natCast, Int.toNat_natCast]
    exact Nat.le_trans h2 (Nat.mul_le_mul_left _ (by omega))

end Go.Proofs.Lh
end
