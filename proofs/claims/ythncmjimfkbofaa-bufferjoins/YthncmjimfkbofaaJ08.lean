/- The contract of skylightref06.Add. · The contract of skylightref06.Add, where it refuses. · What stage 6's laws call by themselves: same, made, awake; and what weight that comes makes of a histogram. · Plain mathematics of estimates: which units a bucket stands for; what is sure, what is cut, and what really came. -/
import Derived.Deep.CutRange
import Derived.Test.YthncmjimfkbofaaJ06
import Derived.Test.YthncmjimfkbofaaJ07
import Derived.Test.YthncmjimfkbofaaJ02
section
/- The contract of skylightref06.Add. -/
namespace Go.Proofs.Ythncmjimfkbofaa
open Go.RowKit Go.Shelf Go.Proofs.Rw Go.Proofs.Lh Go.Proofs.Rf
open Go.Proofs.Lm (stay went leftN)

theorem take_one {R : Lv} {j : Nat} (h : j < R.length) {st : List Sp} (hs : st = lev R j) : R.take j ++ [st] = R.take (j + 1) := by
  rw [hs, lev_lt h, List.take_succ_eq_append_getElem h]

end Go.Proofs.Ythncmjimfkbofaa
end
section
/- The contract of skylightref06.Add, where it refuses. -/
namespace Go.Proofs.Ythncmjimfkbofaa
open Go.RowKit Go.Shelf Go.Proofs.Rw Go.Proofs.Lh

theorem last_none {ls : Lv} (h : (lastOf ls).isSome = false) : (lastOf ls).getD 0 = 0 := by
  cases hl : lastOf ls with
  | none => rfl
  | some x => rw [hl] at h; cases h

end Go.Proofs.Ythncmjimfkbofaa
end
section
/- What stage 6's laws call by themselves: same, made, awake; and what weight that comes makes of a histogram. -/
namespace Go.Proofs.Lh
open Go.Proofs.Lm (Sp)

/-- One deed: so many ticks later so much weight; what is refused is passed over. -/
def stepP (k : Nat) (s : Nat × Lv) (d : Sp) : Nat × Lv := if code s.2 (s.1 + d.1 % 1000) d.2 = 0 then (s.1 + d.1 % 1000, addW k s.2 (s.1 + d.1 % 1000) d.2) else (s.1 + d.1 % 1000, s.2)
def play (k : Nat) (ds : List Sp) (j : Nat) : Nat × Lv := (ds.take j).foldl (stepP k) (0, [])
theorem play_zero (k : Nat) (ds : List Sp) : play k ds 0 = (0, []) := by simp [play]
theorem play_succ (k : Nat) (ds : List Sp) (j : Nat) (h : j < ds.length) : play k ds (j + 1) = stepP k (play k ds j) ds[j] := by
  unfold play
  rw [List.take_succ_eq_append_getElem h, List.foldl_append]
  rfl
theorem step_tick (k : Nat) (s : Nat × Lv) (d : Sp) : (stepP k s d).1 = s.1 + d.1 % 1000 := by unfold stepP; split <;> rfl
theorem step_levs (k : Nat) (s : Nat × Lv) (d : Sp) : (stepP k s d).2 = if code s.2 (s.1 + d.1 % 1000) d.2 = 0 then addW k s.2 (s.1 + d.1 % 1000) d.2 else s.2 := by unfold stepP; split <;> rfl
theorem step_made {k : Nat} {s : Nat × Lv} (h : Made k s.2) (d : Sp) : Made k (stepP k s d).2 := by
  rw [step_levs]
  split
  · exact h.add (by assumption)
  · exact h
theorem play_made {k : Nat} (h2 : 2 ≤ k) (h1 : k ≤ 1024) (ds : List Sp) : ∀ j, j ≤ ds.length → Made k (play k ds j).2
  | 0, _ => by rw [play_zero]; exact Made.nil h2 h1
  | j + 1, h => by rw [play_succ k ds j (by omega)]; exact step_made (play_made h2 h1 ds j (by omega)) _
theorem play_tick (k : Nat) (ds : List Sp) : ∀ j, j ≤ ds.length → (play k ds j).1 ≤ 1000 * j
  | 0, _ => by rw [play_zero]; simp
  | j + 1, h => by
    rw [play_succ k ds j (by omega), step_tick]
    have := play_tick k ds j (by omega)
    omega
/-- No unit is later than the tick. -/
theorem play_last (k : Nat) (hk : 2 ≤ k) (hk1 : k ≤ 1024) (ds : List Sp) : ∀ j, j ≤ ds.length → ∀ last, lastOf (play k ds j).2 = some last → last ≤ (play k ds j).1
  | 0, _ => by rw [play_zero]; intro last h; cases h
  | j + 1, h => by
    have ih := play_last k hk hk1 ds j (by omega)
    have hm := play_made hk hk1 ds j (by omega)
    rw [play_succ k ds j (by omega), step_tick, step_levs]
    intro last hl
    split at hl
    · rename_i hc
      have hn : 1 ≤ (ds[j]'(by omega)).2 := by
        rcases Nat.eq_zero_or_pos (ds[j]'(by omega)).2 with e | e
        · unfold code at hc; rw [if_pos e] at hc; omega
        · exact e
      rw [addW_last k (by omega) _ _ _ hm.ok.shape hn] at hl
      injection hl with hl
      omega
    · have := ih last hl
      omega

/-- What Add tells: its histogram. -/
def outL (k : Nat) (ls : Lv) (t n : Nat) : Lv := if code ls t n = 0 then addW k ls t n else []
def outK (k : Nat) (ls : Lv) (t n : Nat) : Int := if code ls t n = 0 then (k : Int) else 0

theorem four : addW 2 [] 5 4 = [[(5, 5), (5, 5)], [(5, 5)]] := by
  unfold addW addL
  rw [newL_ne _ _ (by simp), newL_ne _ _ (by decide)]
  rw [show wentL (wentL (List.replicate 4 (5, 5)) (rm 2 0)) (rm 2 (0 + 1)) = [] by decide, newL_nil]
  decide
end Go.Proofs.Lh
namespace Go.Proofs.Ythncmjimfkbofaa
open Go.RowKit Go.Shelf Go.Proofs.Rw Go.Proofs.Lh

end Go.Proofs.Ythncmjimfkbofaa
end
section
/- Plain mathematics of estimates: which units a bucket stands for; what is sure, what is cut, and what really came. -/
namespace Go.Proofs.Lh
open Go.Proofs.Lm (Sp Turn)

/-! ### Units: a bucket of the level i stands for 2^i units, one behind the other -/

def Seg (i : Nat) : List Sp → List Nat → Prop
  | [], us => us = []
  | b :: l, us => ∃ u v, us = u ++ v ∧ u.length = 2 ^ i ∧ u.head? = some b.1 ∧ u.getLast? = some b.2 ∧ Seg i l v
/-- Levels stand for units, the last level for the oldest ones. -/
def Rep : Nat → Lv → List Nat → Prop
  | _, [], us => us = []
  | i, l :: ls, us => ∃ uo un, us = uo ++ un ∧ Rep (i + 1) ls uo ∧ Seg i l un

theorem seg_app (i : Nat) : ∀ {l m : List Sp} {u v : List Nat}, Seg i l u → Seg i m v → Seg i (l ++ m) (u ++ v)
  | [], m, u, v, h, k => by rw [show u = [] from h]; exact k
  | b :: l, m, u, v, ⟨a, c, e, h1, h2, h3, h4⟩, k => ⟨a, c ++ v, by rw [e, List.append_assoc], h1, h2, h3, seg_app i h4 k⟩
theorem seg_split (i : Nat) : ∀ {l m : List Sp} {us : List Nat}, Seg i (l ++ m) us → ∃ u v, us = u ++ v ∧ Seg i l u ∧ Seg i m v
  | [], m, us, h => ⟨[], us, rfl, rfl, h⟩
  | b :: l, m, us, h => by
    obtain ⟨a, c, e, h1, h2, h3, h4⟩ := h
    obtain ⟨u, v, e2, k1, k2⟩ := seg_split i h4
    exact ⟨a ++ u, v, by rw [e, e2, List.append_assoc], ⟨a, u, rfl, h1, h2, h3, k1⟩, k2⟩
theorem seg_pair (i : Nat) : ∀ {l : List Sp} {us : List Nat}, l.length % 2 = 0 → Seg i l us → Seg (i + 1) (pairUp l) us
  | [], _, _, h => h
  | [_], _, hl, _ => by simp at hl
  | a :: b :: r, us, hl, h => by
    obtain ⟨u, v, e, h1, h2, h3, x, y, e2, k1, k2, k3, k4⟩ := h
    have hp : 0 < 2 ^ i := Nat.two_pow_pos i
    refine ⟨u ++ x, y, by rw [e, e2, List.append_assoc], by rw [List.length_append, h1, k1, Nat.pow_succ]; omega, ?_, ?_, seg_pair i (by simp at hl; omega) k4⟩
    · rw [List.head?_append, h2]; rfl
    · rw [List.getLast?_append, k3]; rfl
theorem seg_len (i : Nat) : ∀ {l : List Sp} {us : List Nat}, Seg i l us → us.length = l.length * 2 ^ i
  | [], us, h => by rw [show us = [] from h]; simp
  | b :: l, us, ⟨a, c, e, h1, _, _, h4⟩ => by
    have := seg_len i h4
    rw [e, List.length_append, h1, this, List.length_cons, Nat.add_mul]
    omega
theorem seg_push {i : Nat} {l : List Sp} {us : List Nat} {room : Nat} (hr : 1 ≤ room) (h : Seg i l us) : ∃ u v, us = u ++ v ∧ Seg (i + 1) (wentL l room) u ∧ Seg i (stayL l room) v := by
  have hp := prs_le l.length room hr
  rw [← List.take_append_drop (2 * prs l.length room) l] at h
  obtain ⟨u, v, e, h1, h2⟩ := seg_split i h
  exact ⟨u, v, e, seg_pair i (by rw [List.length_take]; omega) h1, h2⟩
theorem rep_new (k : Nat) : ∀ (n i : Nat) (come : List Sp) (us : List Nat), come.length ≤ n → Seg i come us → Rep i (newL k i come) us := by
  intro n
  induction n with
  | zero =>
    intro i come us h hs
    have : come = [] := List.eq_nil_of_length_eq_zero (by omega)
    subst this
    rw [newL_nil]
    exact hs
  | succ n ih =>
    intro i come us h hs
    by_cases hc : come = []
    · subst hc
      rw [newL_nil]
      exact hs
    · have h1 := went_lt come (rm k i) (rm_pos k i) hc
      obtain ⟨u, v, e, k1, k2⟩ := seg_push (rm_pos k i) hs
      rw [newL_ne k i hc]
      exact ⟨u, v, e, ih (i + 1) _ _ (by omega) k1, k2⟩
theorem rep_add (k : Nat) : ∀ {ls : Lv} {i : Nat} {come : List Sp} {uo uc : List Nat}, Rep i ls uo → Seg i come uc → Rep i (addL k i ls come) (uo ++ uc)
  | [], i, come, uo, uc, h, hc => by
    rw [addL, show uo = [] from h, List.nil_append]
    exact rep_new k _ i come uc (Nat.le_refl _) hc
  | l :: ls, i, come, uo, uc, ⟨a, b, e, h1, h2⟩, hc => by
    obtain ⟨u, v, e2, k1, k2⟩ := seg_push (rm_pos k i) (seg_app i h2 hc)
    rw [addL]
    exact ⟨a ++ u, v, by rw [e, List.append_assoc, e2, List.append_assoc], rep_add k h1 k1, k2⟩
theorem seg_units (t : Nat) : ∀ n : Nat, Seg 0 (List.replicate n (t, t)) (List.replicate n t)
  | 0 => rfl
  | n + 1 => ⟨[t], List.replicate n t, rfl, rfl, rfl, rfl, seg_units t n⟩
theorem rep_addW (k : Nat) {ls : Lv} {us : List Nat} (h : Rep 0 ls us) (t n : Nat) : Rep 0 (addW k ls t n) (us ++ List.replicate n t) := rep_add k h (seg_units t n)

/-! ### What is sure, and what is cut -/

/-- What is within at a tick is within at a later one. -/
def Up (p : Nat → Bool) : Prop := ∀ a b, a ≤ b → p a = true → p b = true
def sureP (p : Nat → Bool) (b : Sp) : Bool := p b.1
def cutP (p : Nat → Bool) (b : Sp) : Bool := !p b.1 && p b.2
def sureL (p : Nat → Bool) : Nat → Lv → Nat
  | _, [] => 0
  | i, l :: ls => l.countP (sureP p) * 2 ^ i + sureL p (i + 1) ls
def cutS (p : Nat → Bool) : Nat → Lv → Nat
  | _, [] => 0
  | i, l :: ls => l.countP (cutP p) * 2 ^ i + cutS p (i + 1) ls
/-- The estimate. -/
def estL (p : Nat → Bool) (L : Lv) : Nat := sureL p 0 L + cutS p 0 L / 2

theorem countP_sorted_all {p : Nat → Bool} (hp : Up p) {u : List Nat} {a : Nat} (hs : u.Pairwise (· ≤ ·)) (hh : u.head? = some a) (ha : p a = true) : u.countP p = u.length := by
  rw [List.countP_eq_length]
  intro x hx
  cases u with
  | nil => cases hx
  | cons y u =>
    injection hh with hh
    subst hh
    rcases List.mem_cons.1 hx with rfl | hx
    · exact ha
    · exact hp _ _ ((List.pairwise_cons.1 hs).1 x hx) ha
theorem countP_sorted_none {p : Nat → Bool} (hp : Up p) {u : List Nat} {b : Nat} (hs : u.Pairwise (· ≤ ·)) (hl : u.getLast? = some b) (hb : p b = false) : u.countP p = 0 := by
  rw [List.countP_eq_zero]
  intro x hx hpx
  obtain ⟨v, rfl⟩ : ∃ v, u = v ++ [b] := by
    rcases List.eq_nil_or_concat u with e | ⟨v, y, e⟩
    · rw [e] at hl; cases hl
    · rw [e] at hl
      simp at hl
      exact ⟨v, by rw [e, hl]; simp⟩
  have hxb : x ≤ b := by
    rcases List.mem_append.1 hx with h | h
    · exact (List.pairwise_append.1 hs).2.2 x h b (by simp)
    · rw [List.mem_singleton.1 h]; exact Nat.le_refl _
  have := hp x b hxb hpx
  rw [hb] at this
  cases this
theorem seg_count {p : Nat → Bool} (hp : Up p) (i : Nat) : ∀ {l : List Sp} {us : List Nat}, Seg i l us → us.Pairwise (· ≤ ·) → l.countP (sureP p) * 2 ^ i ≤ us.countP p ∧ us.countP p ≤ l.countP (sureP p) * 2 ^ i + l.countP (cutP p) * 2 ^ i
  | [], us, h, _ => by rw [show us = [] from h]; simp
  | b :: l, us, ⟨u, v, e, h1, h2, h3, h4⟩, hs => by
    subst e
    obtain ⟨s1, s2, _⟩ := List.pairwise_append.1 hs
    obtain ⟨k1, k2⟩ := seg_count hp i h4 s2
    rw [List.countP_append, List.countP_cons, List.countP_cons]
    have hle : u.countP p ≤ 2 ^ i := by rw [← h1]; exact List.countP_le_length
    cases hb1 : p b.1 with
    | true =>
      have := countP_sorted_all hp s1 h2 hb1
      have e1 : sureP p b = true := hb1
      have e2 : cutP p b = false := by unfold cutP; rw [hb1]; rfl
      rw [e1, e2, if_pos rfl, if_neg (by simp), Nat.add_mul, Nat.add_zero]
      omega
    | false =>
      have e1 : sureP p b = false := hb1
      cases hb2 : p b.2 with
      | true =>
        have e2 : cutP p b = true := by unfold cutP; rw [hb1, hb2]; rfl
        rw [e1, e2, if_neg (by simp), if_pos rfl, Nat.add_zero, Nat.add_mul]
        omega
      | false =>
        have := countP_sorted_none hp s1 h3 hb2
        have e2 : cutP p b = false := by unfold cutP; rw [hb1, hb2]; rfl
        rw [e1, e2, if_neg (by simp), Nat.add_zero, Nat.add_zero]
        omega
/-- What is sure is no more than what really came, and with what is cut it is no less. -/
theorem rep_count {p : Nat → Bool} (hp : Up p) : ∀ {L : Lv} {i : Nat} {us : List Nat}, Rep i L us → us.Pairwise (· ≤ ·) → sureL p i L ≤ us.countP p ∧ us.countP p ≤ sureL p i L + cutS p i L
  | [], i, us, h, _ => by rw [show us = [] from h]; simp [sureL, cutS]
  | l :: ls, i, us, ⟨uo, un, e, h1, h2⟩, hs => by
    subst e
    obtain ⟨s1, s2, _⟩ := List.pairwise_append.1 hs
    have a := rep_count hp h1 s1
    have b := seg_count hp i h2 s2
    rw [List.countP_append, sureL, cutS]
    omega

/-! ### The bound -/

theorem cut_some {p : Nat → Bool} : ∀ {L : Lv} {i : Nat}, cutS p i L ≠ 0 → ∃ b ∈ allOf L, p b.2 = true
  | [], _, h => absurd rfl h
  | l :: ls, i, h => by
    rw [cutS] at h
    by_cases h1 : cutS p (i + 1) ls = 0
    · have h2 : l.countP (cutP p) ≠ 0 := by
        intro e
        rw [e, h1] at h
        simp at h
      obtain ⟨b, hb, hc⟩ := List.countP_pos_iff.1 (Nat.pos_of_ne_zero h2)
      unfold cutP at hc
      simp at hc
      exact ⟨b, by rw [allOf]; exact List.mem_append_right _ hb, hc.2⟩
    · obtain ⟨b, hb, hc⟩ := cut_some h1
      exact ⟨b, by rw [allOf]; exact List.mem_append_left _ hb, hc⟩
theorem later_sure {p : Nat → Bool} (hp : Up p) {l : List Sp} {a : Sp} (ha : p a.2 = true) (h : ∀ b ∈ l, a.2 ≤ b.1) : l.countP (sureP p) = l.length ∧ l.countP (cutP p) = 0 := by
  constructor
  · rw [List.countP_eq_length]
    exact fun b hb => hp _ _ (h b hb) ha
  · rw [List.countP_eq_zero]
    intro b hb hc
    unfold cutP at hc
    rw [hp _ _ (h b hb) ha] at hc
    simp at hc
theorem cut_one {p : Nat → Bool} (hp : Up p) : ∀ {l : List Sp}, Turn l → l.countP (cutP p) ≤ 1
  | [], _ => by simp
  | b :: l, h => by
    have hl : Turn l := turn_sub h (List.sublist_cons_self b l)
    have ih := cut_one hp hl
    rw [List.countP_cons]
    cases hb : cutP p b with
    | false => simpa using ih
    | true =>
      have hb2 : p b.2 = true := by unfold cutP at hb; simp at hb; exact hb.2
      have := (later_sure hp hb2 fun c hc => (List.pairwise_cons.1 h.2).1 c hc).2
      rw [this, if_pos rfl]
      omega
/-- A bucket that is cut on a level from i on has no more units than all that are newer, by k. -/
theorem cut_bound {p : Nat → Bool} (hp : Up p) {k : Nat} (hk : 1 ≤ k) : ∀ {L : Lv} {i : Nat} (T : Nat), 1 ≤ i → Shape k i L → Turn (allOf L) → k * 2 ^ i ≤ 2 * T → k * cutS p i L ≤ 2 * (T + sureL p i L)
  | [], _, T, _, _, _, _ => by simp [cutS, sureL]
  | l :: ls, i, T, hi, hs, ht, hT => by
    have htt := ht
    rw [allOf] at htt
    obtain ⟨t1, t2, t3⟩ := turn_app.1 htt
    rw [cutS, sureL]
    by_cases h0 : cutS p (i + 1) ls = 0
    · rw [h0, Nat.add_zero]
      have h1 := cut_one hp t2
      rcases Nat.eq_zero_or_pos (l.countP (cutP p)) with e | e
      · rw [e]; simp
      · rw [show l.countP (cutP p) = 1 by omega, Nat.one_mul]
        omega
    · obtain ⟨a, ha, hpa⟩ := cut_some h0
      obtain ⟨e1, e2⟩ := later_sure hp hpa (fun b hb => t3 a ha b hb)
      rw [e1, e2, Nat.zero_mul, Nat.zero_add]
      cases ls with
      | nil => exact absurd rfl h0
      | cons m ls =>
        have hm : (k + 1) / 2 ≤ l.length := by
          have h3 : rm k i - 1 ≤ l.length := hs.1
          unfold rm at h3
          rw [if_neg (by omega)] at h3
          omega
        have hmul : (k + 1) / 2 * 2 ^ i ≤ l.length * 2 ^ i := Nat.mul_le_mul_right _ hm
        have hkk : k * 2 ^ i ≤ 2 * ((k + 1) / 2 * 2 ^ i) := by
          rw [← Nat.mul_assoc]
          exact Nat.mul_le_mul_right _ (by omega)
        have := cut_bound hp hk (T + l.length * 2 ^ i) (by omega) hs.2.2 t1 (by rw [Nat.pow_succ, ← Nat.mul_assoc]; omega)
        omega
theorem cut_flat {p : Nat → Bool} {l : List Sp} (h : ∀ x ∈ l, x.1 = x.2) : l.countP (cutP p) = 0 := by
  rw [List.countP_eq_zero]
  intro b hb hc
  unfold cutP at hc
  rw [h b hb] at hc
  cases p b.2 <;> simp at hc
theorem cut_even {p : Nat → Bool} : ∀ {L : Lv} {i : Nat}, 1 ≤ i → cutS p i L % 2 = 0
  | [], _, _ => rfl
  | l :: ls, i, h => by
    have := cut_even (p := p) (L := ls) (i := i + 1) (by omega)
    obtain ⟨j, rfl⟩ : ∃ j, i = j + 1 := ⟨i - 1, by omega⟩
    rw [cutS, Nat.pow_succ, ← Nat.mul_assoc]
    omega
theorem Made.cut {k : Nat} {L : Lv} (h : Made k L) {p : Nat → Bool} (hp : Up p) : k * cutS p 0 L ≤ 2 * sureL p 0 L ∧ cutS p 0 L % 2 = 0 := by
  have hk := h.k2
  have hs := h.ok.shape
  have ht := h.ok.turn
  have hf := h.ok.flat
  cases L with
  | nil => simp [cutS, sureL]
  | cons l ls =>
    rw [cutS, sureL, cut_flat hf, Nat.zero_mul, Nat.zero_add]
    refine ⟨?_, cut_even (by omega)⟩
    rw [allOf] at ht
    obtain ⟨t1, t2, t3⟩ := turn_app.1 ht
    by_cases h0 : cutS p (0 + 1) ls = 0
    · rw [h0]; simp
    · obtain ⟨a, ha, hpa⟩ := cut_some h0
      obtain ⟨e1, e2⟩ := later_sure hp hpa (fun b hb => t3 a ha b hb)
      rw [e1]
      cases ls with
      | nil => exact absurd rfl h0
      | cons m ls =>
        have hm : k ≤ l.length := by
          have h3 : rm k 0 - 1 ≤ l.length := hs.1
          unfold rm at h3
          rw [if_pos rfl] at h3
          omega
        exact cut_bound hp (by omega) (l.length * 2 ^ 0) (by omega) hs.2.2 t1 (by simp; omega)
/-- THE BOUND. -/
theorem Made.bound {k : Nat} {L : Lv} (h : Made k L) {p : Nat → Bool} (hp : Up p) {us : List Nat} (hr : Rep 0 L us) (hs : us.Pairwise (· ≤ ·)) : (k - 1) * us.countP p ≤ k * estL p L ∧ k * estL p L ≤ (k + 1) * us.countP p := by
  obtain ⟨h1, h2⟩ := h.cut hp
  obtain ⟨h3, h4⟩ := rep_count hp hr hs
  unfold estL
  have hk := h.k2
  obtain ⟨c, hc⟩ : ∃ c, cutS p 0 L = 2 * c := ⟨cutS p 0 L / 2, by omega⟩
  rw [hc] at h1 h4 ⊢
  rw [show 2 * c / 2 = c by omega]
  generalize sureL p 0 L = s at *
  generalize us.countP p = n at *
  have h5 : k * c ≤ s := by
    have : k * (2 * c) = 2 * (k * c) := by rw [Nat.mul_left_comm]
    omega
  obtain ⟨j, rfl⟩ : ∃ j, k = j + 1 := ⟨k - 1, by omega⟩
  constructor
  · -- (k - 1) n ≤ k (s + c): k n ≤ k (s + 2 c), and k c ≤ s ≤ n
    have a1 : (j + 1) * n ≤ (j + 1) * (s + 2 * c) := Nat.mul_le_mul_left _ h4
    have a2 : (j + 1) * (s + 2 * c) = (j + 1) * (s + c) + (j + 1) * c := by rw [← Nat.mul_add]; congr 1; omega
    have a3 : (j + 1) * n = j * n + n := by rw [Nat.add_mul]; omega
    rw [show j + 1 - 1 = j by omega]
    omega
  · have a1 : (j + 1) * s ≤ (j + 1) * n := Nat.mul_le_mul_left _ h3
    rw [Nat.mul_add, show (j + 1 + 1) * n = (j + 1) * n + n by rw [Nat.add_mul (j + 1) 1]; omega]
    omega

/-! ### More is within: as much, or more; what is dropped; all -/

theorem count_mono {p q : Nat → Bool} (h : ∀ x, p x = true → q x = true) : ∀ l : List Sp, 2 * l.countP (sureP p) + l.countP (cutP p) ≤ 2 * l.countP (sureP q) + l.countP (cutP q)
  | [] => by simp
  | b :: l => by
    have ih := count_mono h l
    rw [List.countP_cons, List.countP_cons, List.countP_cons, List.countP_cons]
    have h1 := h b.1
    have h2 := h b.2
    unfold sureP cutP at *
    cases hp1 : p b.1 <;> cases hp2 : p b.2 <;> cases hq1 : q b.1 <;> cases hq2 : q b.2 <;> simp_all <;> omega
theorem two_mono {p q : Nat → Bool} (h : ∀ x, p x = true → q x = true) : ∀ (L : Lv) (i : Nat), 2 * sureL p i L + cutS p i L ≤ 2 * sureL q i L + cutS q i L
  | [], _ => Nat.le_refl _
  | l :: ls, i => by
    have ih := two_mono h ls (i + 1)
    have := Nat.mul_le_mul_right (2 ^ i) (count_mono h l)
    rw [Nat.add_mul, Nat.add_mul, Nat.mul_assoc, Nat.mul_assoc] at this
    rw [sureL, cutS, sureL, cutS]
    omega
theorem est_mono {p q : Nat → Bool} (h : ∀ x, p x = true → q x = true) (L : Lv) : estL p L ≤ estL q L := by
  have := two_mono h L 0
  unfold estL
  omega
theorem sure_all {p : Nat → Bool} (h : ∀ x, p x = true) : ∀ (L : Lv) (i : Nat), sureL p i L = totFrom i L ∧ cutS p i L = 0
  | [], _ => ⟨rfl, rfl⟩
  | l :: ls, i => by
    obtain ⟨h1, h2⟩ := sure_all h ls (i + 1)
    have e1 : l.countP (sureP p) = l.length := List.countP_eq_length.2 fun b _ => h b.1
    have e2 : l.countP (cutP p) = 0 := List.countP_eq_zero.2 fun b _ hc => by unfold cutP at hc; rw [h b.1] at hc; simp at hc
    rw [sureL, cutS, totFrom, h1, h2, e1, e2]
    simp
theorem est_all {p : Nat → Bool} (h : ∀ x, p x = true) (L : Lv) : estL p L = tot L := by
  obtain ⟨h1, h2⟩ := sure_all h L 0
  unfold estL
  rw [h1, h2, tot_eq]
  simp
theorem parts_trim {p : Nat → Bool} : ∀ (M : Lv) (i : Nat), sureL p i (trim M) = sureL p i M ∧ cutS p i (trim M) = cutS p i M
  | [], _ => ⟨rfl, rfl⟩
  | l :: ls, i => by
    obtain ⟨h1, h2⟩ := parts_trim (p := p) ls (i + 1)
    rw [trim]
    split
    · rename_i h
      rw [h.2] at h1 h2
      show 0 = l.countP (sureP p) * 2 ^ i + sureL p (i + 1) ls ∧ 0 = l.countP (cutP p) * 2 ^ i + cutS p (i + 1) ls
      rw [← h1, ← h2, h.1]
      simp [sureL, cutS]
    · rw [sureL, cutS, sureL, cutS, h1, h2]
      exact ⟨rfl, rfl⟩
theorem parts_cut {p : Nat → Bool} {f w : Nat} : ∀ (L : Lv) (i : Nat), (∀ b ∈ allOf L, oldB b.2 f w = true → p b.1 = false ∧ p b.2 = false) → sureL p i (L.map (cutL f w)) = sureL p i L ∧ cutS p i (L.map (cutL f w)) = cutS p i L
  | [], _, _ => ⟨rfl, rfl⟩
  | l :: ls, i, h => by
    obtain ⟨h1, h2⟩ := parts_cut ls (i + 1) (fun b hb => h b (by rw [allOf]; exact List.mem_append_left _ hb))
    have key : ∀ q : Sp → Bool, (∀ b ∈ l, oldB b.2 f w = true → q b = false) → (cutL f w l).countP q = l.countP q := by
      intro q hq
      unfold cutL
      rw [List.countP_filter]
      refine List.countP_congr fun b hb => ?_
      cases ho : oldB b.2 f w with
      | true => simp [hq b hb ho]
      | false => simp
    have hm : ∀ b ∈ l, b ∈ allOf (l :: ls) := fun b hb => by rw [allOf]; exact List.mem_append_right _ hb
    rw [List.map_cons, sureL, cutS, sureL, cutS, h1, h2, key (sureP p) (fun b hb ho => (h b (hm b hb) ho).1), key (cutP p) (fun b hb ho => by unfold cutP; rw [(h b (hm b hb) ho).2]; simp)]
    exact ⟨rfl, rfl⟩
/-- What is dropped changes nothing, where nothing of it is within. -/
theorem parts_drop {p : Nat → Bool} (hp : Up p) {f w : Nat} {L : Lv} (ht : Turn (allOf L)) (h : ∀ x, oldB x f w = true → p x = false) : sureL p 0 (dropL f w L) = sureL p 0 L ∧ cutS p 0 (dropL f w L) = cutS p 0 L := by
  have hc := parts_cut (p := p) (f := f) (w := w) L 0 (fun b hb ho => by
    have h2 := h b.2 ho
    refine ⟨?_, h2⟩
    cases h1 : p b.1 with
    | false => rfl
    | true =>
      have := hp _ _ (ht.1 b hb) h1
      rw [h2] at this
      cases this)
  unfold dropL
  rw [(parts_trim _ 0).1, (parts_trim _ 0).2]
  exact hc

/-- Whether a tick is within. -/
def withB (tick span t : Nat) : Bool := decide (tick < t + span)
theorem with_up (tick span : Nat) : Up (withB tick span) := by
  intro a b h ha
  unfold withB at *
  rw [decide_eq_true_iff] at *
  omega

end Go.Proofs.Lh
end
