/- What really came, deed by deed, and the units that a histogram stands for. -/
import Derived.Test.YtoplbjanemjebaaHPlay
import Derived.Test.YtoplbjanemjebaaEsMath
namespace Go.Proofs.Lh
open Go.Proofs.Lm (Sp)

/-- One deed: what came within is counted. -/
def exStep (k : Nat) (p : Nat → Bool) (s : (Nat × Lv) × Nat) (d : Sp) : (Nat × Lv) × Nat :=
  (stepP k s.1 d, if code s.1.2 (s.1.1 + d.1 % 1000) d.2 = 0 ∧ p (s.1.1 + d.1 % 1000) = true then s.2 + d.2 else s.2)
def exFold (k : Nat) (p : Nat → Bool) (ds : List Sp) (j : Nat) : (Nat × Lv) × Nat := (ds.take j).foldl (exStep k p) ((0, []), 0)
/-- How many units came within, of the first j deeds. -/
def exactN (k : Nat) (p : Nat → Bool) (ds : List Sp) (j : Nat) : Nat := (exFold k p ds j).2
theorem exFold_play (k : Nat) (p : Nat → Bool) (ds : List Sp) (j : Nat) : (exFold k p ds j).1 = play k ds j := by
  unfold exFold play
  generalize ds.take j = es
  suffices h : ∀ (es : List Sp) (s : (Nat × Lv) × Nat), (es.foldl (exStep k p) s).1 = es.foldl (stepP k) s.1 from h es _
  intro es
  induction es with
  | nil => intro s; rfl
  | cons e es ih => intro s; rw [List.foldl_cons, List.foldl_cons, ih]; rfl
theorem exact_zero (k : Nat) (p : Nat → Bool) (ds : List Sp) : exactN k p ds 0 = 0 := by simp [exactN, exFold]
theorem exact_succ (k : Nat) (p : Nat → Bool) (ds : List Sp) (j : Nat) (h : j < ds.length) :
    exactN k p ds (j + 1) = if code (play k ds j).2 ((play k ds j).1 + ds[j].1 % 1000) ds[j].2 = 0 ∧ p ((play k ds j).1 + ds[j].1 % 1000) = true then exactN k p ds j + ds[j].2 else exactN k p ds j := by
  have e := exFold_play k p ds j
  unfold exactN
  have : exFold k p ds (j + 1) = exStep k p (exFold k p ds j) ds[j] := by
    unfold exFold
    rw [List.take_succ_eq_append_getElem h, List.foldl_append]
    rfl
  rw [this, ← e]
  rfl
/-- The units. -/
theorem play_units (k : Nat) (p : Nat → Bool) (ds : List Sp) : ∀ j, j ≤ ds.length → ∃ us : List Nat, Rep 0 (play k ds j).2 us ∧ us.Pairwise (· ≤ ·) ∧ (∀ u ∈ us, u ≤ (play k ds j).1) ∧ us.countP p = exactN k p ds j
  | 0, _ => ⟨[], by rw [play_zero]; rfl, List.Pairwise.nil, by simp, by rw [exact_zero]; rfl⟩
  | j + 1, h => by
    obtain ⟨us, h1, h2, h3, h4⟩ := play_units k p ds j (by omega)
    rw [play_succ k ds j (by omega), step_tick, step_levs, exact_succ k p ds j (by omega)]
    generalize ds[j]'(by omega) = d at *
    obtain ⟨t, ht⟩ : ∃ t, (play k ds j).1 + d.1 % 1000 = t := ⟨_, rfl⟩
    rw [ht]
    by_cases hc : code (play k ds j).2 t d.2 = 0
    · rw [if_pos hc]
      refine ⟨us ++ List.replicate d.2 t, rep_addW k h1 t d.2, ?_, ?_, ?_⟩
      · rw [List.pairwise_append]
        refine ⟨h2, ?_, ?_⟩
        · rw [List.pairwise_replicate]
          exact .inr (Nat.le_refl _)
        · intro a ha b hb
          have := h3 a ha
          rw [List.eq_of_mem_replicate hb]
          omega
      · intro u hu
        rcases List.mem_append.1 hu with hu | hu
        · have := h3 u hu
          omega
        · rw [List.eq_of_mem_replicate hu]
          exact Nat.le_refl _
      · rw [List.countP_append, h4, List.countP_replicate]
        cases hp : p t with
        | true => rw [if_pos rfl, if_pos ⟨hc, rfl⟩]
        | false => rw [if_neg (by simp), if_neg (by simp)]; rfl
    · rw [if_neg hc, if_neg (fun h => hc h.1)]
      exact ⟨us, h1, h2, fun u hu => by have := h3 u hu; omega, h4⟩

/-- It is no more than all that there is. -/
theorem rep_len : ∀ {L : Lv} {i : Nat} {us : List Nat}, Rep i L us → us.length = totFrom i L
  | [], _, us, h => by rw [show us = [] from h]; rfl
  | l :: ls, i, us, ⟨uo, un, e, h1, h2⟩ => by
    rw [e, List.length_append, rep_len h1, seg_len i h2, totFrom]
    omega
theorem exact_le (k : Nat) (p : Nat → Bool) (ds : List Sp) (j : Nat) (h : j ≤ ds.length) : exactN k p ds j ≤ tot (play k ds j).2 := by
  obtain ⟨us, h1, _, _, h4⟩ := play_units k p ds j h
  rw [← h4, ← tot_eq, ← rep_len h1]
  exact List.countP_le_length
/-- The bound, and the parts, of what came. -/
theorem play_bound {k : Nat} (hk : 2 ≤ k) (hk1 : k ≤ 1024) {p : Nat → Bool} (hp : Up p) (ds : List Sp) (j : Nat) (h : j ≤ ds.length) :
    ((k - 1) * exactN k p ds j ≤ k * estL p (play k ds j).2 ∧ k * estL p (play k ds j).2 ≤ (k + 1) * exactN k p ds j) ∧ sureL p 0 (play k ds j).2 ≤ exactN k p ds j ∧ exactN k p ds j ≤ sureL p 0 (play k ds j).2 + cutS p 0 (play k ds j).2 := by
  obtain ⟨us, h1, h2, _, h4⟩ := play_units k p ds j h
  rw [← h4]
  exact ⟨(play_made hk hk1 ds j h).bound hp h1 h2, rep_count hp h1 h2⟩
/-- No more than all units is sure, or cut. -/
theorem parts_le (p : Nat → Bool) : ∀ (L : Lv) (i : Nat), sureL p i L + cutS p i L ≤ totFrom i L
  | [], _ => Nat.le_refl _
  | l :: ls, i => by
    have ih := parts_le p ls (i + 1)
    have h : l.countP (sureP p) + l.countP (cutP p) ≤ l.length := by
      induction l with
      | nil => simp
      | cons b l ihl =>
        rw [List.countP_cons, List.countP_cons, List.length_cons]
        unfold sureP cutP at *
        cases p b.1 <;> cases p b.2 <;> simp <;> omega
    have := Nat.mul_le_mul_right (2 ^ i) h
    rw [Nat.add_mul] at this
    rw [sureL, cutS, totFrom]
    omega

end Go.Proofs.Lh
