/- Plain mathematics of events that wait: what goes out by a front, what stays; a buffer that settles; time that goes on; all in turn. · Plain mathematics of a stable sort by ticks: what stays of each tick, in its turn; parts in turn; two neighbours, and two parts, exchanged. · A region that draws its order, walked by facts, all of it: of each operation one fact on the values and the world; each is shown out of the facts of those that it waits for; a fact lasts over the operations that may come up behind it. Stores, and operations without a slot, are let in. · For regions that call Add and lay what it tells into a new variable: facts that last. -/
import Derived.Test.YthncmjimfkbofaaJ09
import Derived.Test.YthncmjimfkbofaaJ06
import Derived.Test.YthncmjimfkbofaaJ08
section
/- Plain mathematics of events that wait: what goes out by a front, what stays; a buffer that settles; time that goes on; all in turn. -/
namespace Go.Proofs.Bu
open Go.Proofs.Lh

/-- By their ticks. -/
def Sd (l : List Ev) : Prop := l.Pairwise fun a b => a.1 ≤ b.1
def outL (f : Nat) (l : List Ev) : List Ev := l.filter fun e => decide (e.1 ≤ f)
def stayL (f : Nat) (l : List Ev) : List Ev := l.filter fun e => decide (f < e.1)
def insL (e : Ev) (l : List Ev) : List Ev := outL e.1 l ++ e :: stayL e.1 l
theorem out_cons (f : Nat) (e : Ev) (l : List Ev) : outL f (e :: l) = if e.1 ≤ f then e :: outL f l else outL f l := by
  unfold outL
  rw [List.filter_cons]
  by_cases h : e.1 ≤ f <;> simp [h]
theorem stay_cons (f : Nat) (e : Ev) (l : List Ev) : stayL f (e :: l) = if f < e.1 then e :: stayL f l else stayL f l := by
  unfold stayL
  rw [List.filter_cons]
  by_cases h : f < e.1 <;> simp [h]
theorem out_mem {f : Nat} {l : List Ev} {e : Ev} : e ∈ outL f l ↔ e ∈ l ∧ e.1 ≤ f := by simp [outL]
theorem stay_mem {f : Nat} {l : List Ev} {e : Ev} : e ∈ stayL f l ↔ e ∈ l ∧ f < e.1 := by simp [stayL]
theorem out_none {f : Nat} {l : List Ev} (h : ∀ e ∈ l, f < e.1) : outL f l = [] ∧ stayL f l = l := by
  refine ⟨List.filter_eq_nil_iff.2 fun e he => ?_, List.filter_eq_self.2 fun e he => ?_⟩
  · have := h e he
    simp
    omega
  · simpa using h e he
theorem out_all {f : Nat} {l : List Ev} (h : ∀ e ∈ l, e.1 ≤ f) : outL f l = l ∧ stayL f l = [] := by
  refine ⟨List.filter_eq_self.2 fun e he => ?_, List.filter_eq_nil_iff.2 fun e he => ?_⟩
  · simpa using h e he
  · have := h e he
    simp
    omega
theorem Sd.cons {e : Ev} {l : List Ev} (h : Sd (e :: l)) : (∀ x ∈ l, e.1 ≤ x.1) ∧ Sd l := List.pairwise_cons.1 h
/-- What goes out stands ahead of what stays. -/
theorem out_stay : ∀ {l : List Ev} (f : Nat), Sd l → outL f l ++ stayL f l = l
  | [], _, _ => rfl
  | e :: l, f, h => by
    obtain ⟨h1, h2⟩ := h.cons
    rw [out_cons, stay_cons]
    by_cases he : e.1 ≤ f
    · rw [if_pos he, if_neg (by omega), List.cons_append, out_stay f h2]
    · have hn := out_none (f := f) (l := l) fun x hx => by have := h1 x hx; omega
      rw [if_neg he, if_pos (by omega), hn.1, hn.2]
      rfl
theorem Sd.out {l : List Ev} (h : Sd l) (f : Nat) : Sd (outL f l) := List.Pairwise.filter _ h
theorem Sd.stay {l : List Ev} (h : Sd l) (f : Nat) : Sd (stayL f l) := List.Pairwise.filter _ h
theorem Sd.ins {l : List Ev} (h : Sd l) (e : Ev) : Sd (insL e l) := by
  unfold insL Sd
  rw [List.pairwise_append]
  refine ⟨h.out _, List.pairwise_cons.2 ⟨fun x hx => ?_, h.stay _⟩, fun a ha b hb => ?_⟩
  · have := (stay_mem.1 hx).2
    omega
  · have h1 := (out_mem.1 ha).2
    rcases List.mem_cons.1 hb with rfl | hb
    · exact h1
    · have := (stay_mem.1 hb).2
      omega
theorem ins_len (e : Ev) (l : List Ev) : (insL e l).length = l.length + 1 := by
  have : (outL e.1 l).length + (stayL e.1 l).length = l.length := by
    induction l with
    | nil => rfl
    | cons x l ih =>
      rw [out_cons, stay_cons]
      by_cases h : x.1 ≤ e.1
      · rw [if_pos h, if_neg (by omega)]
        simp only [List.length_cons]
        omega
      · rw [if_neg h, if_pos (by omega)]
        simp only [List.length_cons]
        omega
  unfold insL
  rw [List.length_append, List.length_cons]
  omega
theorem ins_mem {e x : Ev} {l : List Ev} : x ∈ insL e l ↔ x = e ∨ x ∈ l := by
  unfold insL
  rw [List.mem_append, List.mem_cons, out_mem, stay_mem]
  constructor
  · rintro (h | h | h)
    · exact .inr h.1
    · exact .inl h
    · exact .inr h.1
  · rintro (h | h)
    · exact .inr (.inl h)
    · rcases Nat.lt_or_ge e.1 x.1 with h1 | h1
      · exact .inr (.inr ⟨h, h1⟩)
      · exact .inl ⟨h, h1⟩
/-- By a front, and by a later one. -/
theorem out_out {f g : Nat} (h : f ≤ g) {l : List Ev} (hl : Sd l) : outL f l ++ outL g (stayL f l) = outL g l ∧ stayL g (stayL f l) = stayL g l := by
  have h2 : stayL g (stayL f l) = stayL g l := by
    unfold stayL
    rw [List.filter_filter]
    refine List.filter_congr fun e _ => ?_
    by_cases h1 : g < e.1
    · simp [h1]; omega
    · simp [h1]
  refine ⟨?_, h2⟩
  have e1 := out_stay f hl
  have e2 := out_stay g (hl.stay f)
  have e3 := out_stay g hl
  rw [h2] at e2
  have : outL f l ++ outL g (stayL f l) ++ stayL g l = outL g l ++ stayL g l := by rw [List.append_assoc, e2, e1, e3]
  exact List.append_cancel_right this

/-! ### A buffer settles -/

/-- The tick of the event behind which just room wait; 0, where no more wait. -/
def edge (room : Nat) (l : List Ev) : Nat := if room < l.length then (l[l.length - 1 - room]?.map fun e => e.1).getD 0 else 0
theorem edge_few {room : Nat} {l : List Ev} (h : l.length ≤ room) : edge room l = 0 := if_neg (by omega)
theorem edge_at {room : Nat} {l : List Ev} (h : room < l.length) : edge room l = (l[l.length - 1 - room]'(by omega)).1 := by
  unfold edge
  rw [if_pos h, List.getElem?_eq_getElem (by omega)]
  rfl
theorem sd_le {l : List Ev} (h : Sd l) {i j : Nat} (hij : i ≤ j) (hj : j < l.length) : (l[i]'(by omega)).1 ≤ l[j].1 := by
  rcases Nat.eq_or_lt_of_le hij with rfl | hlt
  · exact Nat.le_refl _
  · exact List.pairwise_iff_getElem.1 h i j (by omega) hj hlt
theorem stay_drop {l : List Ev} (h : Sd l) (f : Nat) : stayL f l = l.drop (outL f l).length := by
  have e : (outL f l ++ stayL f l).drop (outL f l).length = stayL f l := List.drop_left
  rw [out_stay f h] at e
  exact e.symm
theorem out_take {l : List Ev} (h : Sd l) (f : Nat) : outL f l = l.take (outL f l).length := by
  have e : (outL f l ++ stayL f l).take (outL f l).length = outL f l := List.take_left
  rw [out_stay f h] at e
  exact e.symm
theorem out_len_le (f : Nat) (l : List Ev) : (outL f l).length ≤ l.length := List.length_filter_le _ _
theorem len_parts {l : List Ev} (h : Sd l) (f : Nat) : (outL f l).length + (stayL f l).length = l.length := by
  rw [← List.length_append, out_stay f h]
theorem out_at {l : List Ev} (h : Sd l) (f : Nat) {i : Nat} (hi : i < l.length) : l[i].1 ≤ f ↔ i < (outL f l).length := by
  have e := out_take h f
  have hs := stay_drop h f
  constructor
  · intro h1
    rcases Nat.lt_or_ge i (outL f l).length with h2 | h2
    · exact h2
    · have : l[i] ∈ stayL f l := by
        rw [hs]
        exact List.mem_drop_iff_getElem.2 ⟨i - (outL f l).length, by omega, by congr 1; omega⟩
      have := (stay_mem.1 this).2
      omega
  · intro h1
    have : l[i] ∈ outL f l := by
      rw [e]
      exact List.mem_take_iff_getElem.2 ⟨i, by omega, rfl⟩
    exact (out_mem.1 this).2
/-- By the edge no more than room stay. -/
theorem edge_room {room : Nat} {l : List Ev} (h : Sd l) {f : Nat} (hf : edge room l ≤ f) : (stayL f l).length ≤ room := by
  have hp := len_parts h f
  by_cases hr : room < l.length
  · rw [edge_at hr] at hf
    have := (out_at h f (show l.length - 1 - room < l.length by omega)).1 hf
    omega
  · omega
/-- And by no earlier front. -/
theorem edge_more {room : Nat} {l : List Ev} (h : Sd l) {f : Nat} (hf : f < edge room l) : room < (stayL f l).length := by
  have hp := len_parts h f
  by_cases hr : room < l.length
  · rw [edge_at hr] at hf
    have h9 : ¬ l.length - 1 - room < (outL f l).length := fun h1 => by
      have := (out_at h f (show l.length - 1 - room < l.length by omega)).2 h1
      omega
    omega
  · rw [edge_few (by omega)] at hf
    omega
/-- The front of a buffer that settled. -/
def frontB (late room mark front : Nat) (l : List Ev) : Nat := max (max front (mark - late)) (edge room l)
/-- The loop: as long as too many wait, the first one's tick is the front. -/
theorem settle_step {room f : Nat} {l : List Ev} (h : Sd l) (hm : room < (stayL f l).length) : ∃ e r, stayL f l = e :: r ∧ f < e.1 ∧ e.1 ≤ edge room l ∧ outL f l ++ outL e.1 (stayL f l) = outL e.1 l ∧ stayL e.1 (stayL f l) = stayL e.1 l ∧ (stayL e.1 l).length < (stayL f l).length := by
  match hs : stayL f l, hm with
  | e :: r, hm => 
    have he : e ∈ stayL f l := by rw [hs]; exact List.mem_cons_self
    have hlt := (stay_mem.1 he).2
    have hle : e.1 ≤ edge room l := by
      rcases Nat.lt_or_ge (edge room l) e.1 with h1 | h1
      · have h2 := edge_room h (room := room) (Nat.le_refl (edge room l))
        have hp := len_parts h f
        have hr : room < l.length := by rw [hs] at hp; omega
        have h3 : (stayL (edge room l) l).length ≥ (stayL f l).length := by
          have : stayL (edge room l) (stayL f l) = stayL f l := by
            refine (out_none fun x hx => ?_).2
            have hx2 := hx
            rw [hs] at hx2
            rcases List.mem_cons.1 hx2 with rfl | hx2
            · exact h1
            · have := (Sd.cons (by rw [← hs]; exact h.stay f)).1 x hx2
              omega
          rcases Nat.le_total (edge room l) f with h4 | h4
          · have h5 := edge_room h h4
            rw [hs] at h5
            omega
          · rw [← (out_out h4 h).2, this]
            exact Nat.le_refl _
        rw [hs] at h3
        omega
      · exact h1
    obtain ⟨h1, h2⟩ := out_out (Nat.le_of_lt hlt) h
    refine ⟨e, r, rfl, hlt, hle, by rw [← hs]; exact h1, by rw [← hs]; exact h2, ?_⟩
    rw [← h2, hs]
    have hp := len_parts (h.stay f) e.1
    rw [hs] at hp
    have : (outL e.1 (e :: r)).length ≠ 0 := by
      rw [out_cons, if_pos (Nat.le_refl _)]
      simp
    omega
/-- Where no more than room stay, and no front was later than it must be. -/
theorem settle_end {late room mark front f : Nat} {l : List Ev} (h : Sd l) (h0 : max front (mark - late) ≤ f) (h1 : f ≤ frontB late room mark front l) (hm : ¬ room < (stayL f l).length) : f = frontB late room mark front l := by
  unfold frontB at *
  rcases Nat.lt_or_ge f (edge room l) with h2 | h2
  · exact absurd (edge_more h h2) hm
  · omega

/-! ### Push, Move -/

structure Bf where
  late : Nat
  room : Nat
  mark : Nat
  front : Nat
  evs : List Ev
def settleB (b : Bf) : Bf × List Ev := ({ b with front := frontB b.late b.room b.mark b.front b.evs, evs := stayL (frontB b.late b.room b.mark b.front b.evs) b.evs }, outL (frontB b.late b.room b.mark b.front b.evs) b.evs)
def moveB (b : Bf) (t : Nat) : Bf × List Ev := settleB { b with mark := max b.mark t }
def pushB (b : Bf) (e : Ev) : Bf × List Ev := settleB { b with mark := max b.mark e.1, evs := insL e b.evs }
/-- May be. -/
structure MayB (b : Bf) : Prop where
  late : b.late ≤ 4611686018427387904
  room : 1 ≤ b.room ∧ b.room ≤ 1024
  few : b.evs.length ≤ b.room
  sd : Sd b.evs
  each : ∀ e ∈ b.evs, 1 ≤ e.2.2 ∧ b.front < e.1 ∧ e.1 ≤ b.mark
  turn : b.front ≤ b.mark ∧ b.mark ≤ 9223372036854775807 ∧ b.mark - b.front ≤ b.late
theorem settle_may {b : Bf} (hl : b.late ≤ 4611686018427387904) (hr : 1 ≤ b.room ∧ b.room ≤ 1024) (hs : Sd b.evs) (he : ∀ e ∈ b.evs, 1 ≤ e.2.2 ∧ e.1 ≤ b.mark) (hf : b.front ≤ b.mark) (hm : b.mark ≤ 9223372036854775807) : MayB (settleB b).1 := by
  have hg : frontB b.late b.room b.mark b.front b.evs ≤ b.mark := by
    have : edge b.room b.evs ≤ b.mark := by
      by_cases h : b.room < b.evs.length
      · rw [edge_at h]
        exact (he _ (List.getElem_mem _)).2
      · rw [edge_few (by omega)]
        omega
    unfold frontB
    omega
  have h1 : max b.front (b.mark - b.late) ≤ frontB b.late b.room b.mark b.front b.evs := by unfold frontB; omega
  have h2 : edge b.room b.evs ≤ frontB b.late b.room b.mark b.front b.evs := by unfold frontB; omega
  refine ⟨hl, hr, edge_room hs h2, hs.stay _, fun e h => ?_, hg, hm, ?_⟩
  · obtain ⟨q1, q2⟩ := stay_mem.1 h
    exact ⟨(he e q1).1, q2, (he e q1).2⟩
  · show b.mark - frontB b.late b.room b.mark b.front b.evs ≤ b.late
    omega
theorem MayB.move {b : Bf} (h : MayB b) {t : Nat} (ht : t ≤ 9223372036854775807) : MayB (moveB b t).1 :=
  settle_may (b := { b with mark := max b.mark t }) h.late h.room h.sd (fun e he => ⟨(h.each e he).1, Nat.le_trans (h.each e he).2.2 (Nat.le_max_left _ _)⟩) (Nat.le_trans h.turn.1 (Nat.le_max_left _ _)) (by have := h.turn.2.1; show max b.mark t ≤ _; omega)
theorem MayB.push {b : Bf} (h : MayB b) {e : Ev} (he : 1 ≤ e.2.2) (ht : e.1 ≤ 9223372036854775807) : MayB (pushB b e).1 :=
  settle_may (b := { b with mark := max b.mark e.1, evs := insL e b.evs }) h.late h.room (h.sd.ins e) (fun x hx => by
    rcases ins_mem.1 hx with rfl | hx
    · exact ⟨he, Nat.le_max_right _ _⟩
    · exact ⟨(h.each x hx).1, Nat.le_trans (h.each x hx).2.2 (Nat.le_max_left _ _)⟩) (Nat.le_trans h.turn.1 (Nat.le_max_left _ _)) (by have := h.turn.2.1; show max b.mark e.1 ≤ _; omega)
/-- Time that goes on to a tick, and then to another one, is as to the later one. -/
theorem move_move {b : Bf} (h : MayB b) (a c : Nat) : (moveB (moveB b a).1 c).1 = (moveB b (max a c)).1 ∧ (moveB b a).2 ++ (moveB (moveB b a).1 c).2 = (moveB b (max a c)).2 := by
  have e0 : edge b.room b.evs = 0 := edge_few h.few
  have ha : frontB b.late b.room (max b.mark a) b.front b.evs = max b.front (max b.mark a - b.late) := by unfold frontB; rw [e0]; omega
  have hac : frontB b.late b.room (max b.mark (max a c)) b.front b.evs = max b.front (max b.mark (max a c) - b.late) := by unfold frontB; rw [e0]; omega
  obtain ⟨f, hf⟩ : ∃ f, max b.front (max b.mark a - b.late) = f := ⟨_, rfl⟩
  obtain ⟨g, hg⟩ : ∃ g, max b.front (max b.mark (max a c) - b.late) = g := ⟨_, rfl⟩
  have hfg : f ≤ g := by omega
  have e1 : edge b.room (stayL f b.evs) = 0 := edge_few (by have := List.length_filter_le (fun e : Ev => decide (f < e.1)) b.evs; have := h.few; unfold stayL; omega)
  have hc : frontB b.late b.room (max (max b.mark a) c) f (stayL f b.evs) = g := by unfold frontB; rw [e1]; omega
  obtain ⟨o1, o2⟩ := out_out hfg h.sd
  unfold moveB settleB
  dsimp only
  rw [ha, hac, hf, hg, hc, o1, o2, Nat.max_assoc]
  exact ⟨rfl, rfl⟩

/-! ### In turn -/

/-- By ticks, and of one tick by keys. -/
def Tn (l : List Ev) : Prop := l.Pairwise fun a b => a.1 < b.1 ∨ a.1 = b.1 ∧ a.2.1 < b.2.1
theorem Tn.sd {l : List Ev} (h : Tn l) : Sd l := List.Pairwise.imp (fun h => by omega) h
theorem Tn.ins {o l : List Ev} {e : Ev} {f : Nat} (h : Tn (o ++ l)) (ho : ∀ x ∈ o, x.1 ≤ f) (hf : f ≤ e.1) (hk : ∀ x ∈ o ++ l, x.2.1 < e.2.1) : Tn (o ++ insL e l) := by
  unfold Tn at *
  rw [List.pairwise_append] at h ⊢
  obtain ⟨h1, h2, h3⟩ := h
  refine ⟨h1, ?_, fun a ha b hb => ?_⟩
  · unfold insL
    rw [List.pairwise_append]
    refine ⟨List.Pairwise.filter _ h2, List.pairwise_cons.2 ⟨fun x hx => .inl (stay_mem.1 hx).2, List.Pairwise.filter _ h2⟩, fun a ha b hb => ?_⟩
    have ha1 := (out_mem.1 ha).2
    rcases List.mem_cons.1 hb with rfl | hb
    · have := hk a (List.mem_append_right _ (out_mem.1 ha).1)
      omega
    · have := (stay_mem.1 hb).2
      omega
  · rcases ins_mem.1 hb with rfl | hb
    · have := ho a ha
      have := hk a (List.mem_append_left _ ha)
      omega
    · exact h3 a ha b hb
/-- What a buffer lets out, behind what went out, and what waits then: all that was there. -/
theorem settle_all {b : Bf} (hs : Sd b.evs) (o : List Ev) : o ++ (settleB b).2 ++ (settleB b).1.evs = o ++ b.evs := by
  rw [List.append_assoc]
  show o ++ (outL _ b.evs ++ stayL _ b.evs) = _
  rw [out_stay _ hs]
theorem settle_out {b : Bf} : ∀ x ∈ (settleB b).2, x.1 ≤ (settleB b).1.front := fun _ hx => (out_mem.1 hx).2
theorem settle_front (b : Bf) : b.front ≤ (settleB b).1.front := by
  show b.front ≤ frontB b.late b.room b.mark b.front b.evs
  unfold frontB
  omega
def wsum (l : List Ev) : Nat := (l.map fun e => e.2.2).sum
theorem wsum_app (a b : List Ev) : wsum (a ++ b) = wsum a + wsum b := by simp [wsum]
theorem wsum_ins (e : Ev) (l : List Ev) : wsum (insL e l) = wsum l + e.2.2 := by
  have : ∀ l : List Ev, wsum (outL e.1 l) + wsum (stayL e.1 l) = wsum l := by
    intro l
    induction l with
    | nil => rfl
    | cons x l ih =>
      rw [out_cons, stay_cons]
      by_cases h : x.1 ≤ e.1
      · rw [if_pos h, if_neg (by omega)]
        simp only [wsum, List.map_cons, List.sum_cons] at *
        omega
      · rw [if_neg h, if_pos (by omega)]
        simp only [wsum, List.map_cons, List.sum_cons] at *
        omega
  unfold insL
  rw [wsum_app, ← this l]
  simp only [wsum, List.map_cons, List.sum_cons]
  omega
end Go.Proofs.Bu
end
section
/- Plain mathematics of a stable sort by ticks: what stays of each tick, in its turn; parts in turn; two neighbours, and two parts, exchanged. -/
namespace Go.Proofs.So
set_option linter.unusedVariables false
open Go.Proofs.Lh Go.Proofs.Bu

/-- Of each tick the same events, in the same turn. -/
def Stb (xs ys : List Ev) : Prop := ∀ t, xs.filter (fun e => decide (e.1 = t)) = ys.filter (fun e => decide (e.1 = t))
theorem Stb.refl (xs : List Ev) : Stb xs xs := fun _ => rfl
theorem Stb.trans {a b c : List Ev} (h : Stb a b) (k : Stb b c) : Stb a c := fun t => (h t).trans (k t)
theorem Stb.symm {a b : List Ev} (h : Stb a b) : Stb b a := fun t => (h t).symm
theorem Stb.app {a a' b b' : List Ev} (h : Stb a a') (k : Stb b b') : Stb (a ++ b) (a' ++ b') := fun t => by rw [List.filter_append, List.filter_append, h t, k t]
theorem Stb.mem {a b : List Ev} (h : Stb a b) {e : Ev} : e ∈ a ↔ e ∈ b := by
  have key : ∀ {a b : List Ev}, Stb a b → e ∈ a → e ∈ b := fun {a b} h he => by
    have h1 : e ∈ a.filter (fun x => decide (x.1 = e.1)) := List.mem_filter.2 ⟨he, by simp⟩
    rw [h e.1] at h1
    exact (List.mem_filter.1 h1).1
  exact ⟨key h, key h.symm⟩
/-- Two parts of unlike ticks, exchanged. -/
theorem stb_swap {u v : List Ev} (h : ∀ x ∈ u, ∀ y ∈ v, x.1 ≠ y.1) : Stb (u ++ v) (v ++ u) := fun t => by
  rw [List.filter_append, List.filter_append]
  by_cases hu : u.filter (fun e => decide (e.1 = t)) = []
  · rw [hu, List.nil_append, List.append_nil]
  · have hv : v.filter (fun e => decide (e.1 = t)) = [] := by
      obtain ⟨x, hx⟩ := List.exists_mem_of_ne_nil _ hu
      obtain ⟨hx1, hx2⟩ := List.mem_filter.1 hx
      refine List.filter_eq_nil_iff.2 fun y hy hyt => ?_
      have e1 : x.1 = t := by simpa using hx2
      have e2 : y.1 = t := by simpa using hyt
      exact h x hx1 y hy (by rw [e1, e2])
    rw [hv, List.nil_append, List.append_nil]
/-- By ticks, and of each tick the same: just one list. -/
theorem stb_one : ∀ {xs ys : List Ev}, Sd xs → Sd ys → Stb xs ys → xs = ys
  | [], ys, _, _, h => by
    cases ys with
    | nil => rfl
    | cons y ys => exact absurd (h.mem.2 List.mem_cons_self) (by simp)
  | x :: xs, [], _, _, h => absurd (h.mem.1 List.mem_cons_self) (by simp)
  | x :: xs, y :: ys, h1, h2, h => by
    obtain ⟨a1, a2⟩ := h1.cons
    obtain ⟨b1, b2⟩ := h2.cons
    have hk : x.1 = y.1 := by
      have c1 : y.1 ≤ x.1 := by
        rcases List.mem_cons.1 (h.mem.1 (List.mem_cons_self (a := x) (l := xs))) with e | e
        · rw [e]; exact Nat.le_refl _
        · exact b1 x e
      have c2 : x.1 ≤ y.1 := by
        rcases List.mem_cons.1 (h.mem.2 (List.mem_cons_self (a := y) (l := ys))) with e | e
        · rw [e]; exact Nat.le_refl _
        · exact a1 y e
      omega
    have h0 := h x.1
    rw [List.filter_cons, List.filter_cons, if_pos (by simp), if_pos (by simp [hk])] at h0
    injection h0 with e1 e2
    subst e1
    have : Stb xs ys := fun t => by
      have ht := h t
      rw [List.filter_cons, List.filter_cons] at ht
      by_cases hx : x.1 = t
      · rw [if_pos (by simpa using hx), if_pos (by simpa using hx)] at ht
        injection ht
      · rw [if_neg (by simpa using hx), if_neg (by simpa using hx)] at ht
        exact ht
    rw [stb_one a2 b2 this]
theorem stb_ins (e : Ev) (l : List Ev) : Stb (l ++ [e]) (insL e l) := fun t => by
  unfold insL
  rw [List.filter_append, List.filter_append]
  have hsplit : l.filter (fun x => decide (x.1 = t)) = (outL e.1 l).filter (fun x => decide (x.1 = t)) ++ (stayL e.1 l).filter (fun x => decide (x.1 = t)) := by
    unfold Bu.outL Bu.stayL
    rw [List.filter_filter, List.filter_filter]
    by_cases ht : t ≤ e.1
    · have h1 : l.filter (fun a => decide (a.1 = t) && decide (e.1 < a.1)) = [] := List.filter_eq_nil_iff.2 fun a _ => by simp; omega
      rw [h1, List.append_nil]
      refine List.filter_congr fun a _ => ?_
      by_cases ha : a.1 = t
      · simp [ha, ht]
      · simp [ha]
    · have h1 : l.filter (fun a => decide (a.1 = t) && decide (a.1 ≤ e.1)) = [] := List.filter_eq_nil_iff.2 fun a _ => by simp; omega
      rw [h1, List.nil_append]
      refine List.filter_congr fun a _ => ?_
      by_cases ha : a.1 = t
      · simp [ha]; omega
      · simp [ha]
  rw [hsplit]
  by_cases ht : e.1 = t
  · have h1 : (stayL e.1 l).filter (fun x => decide (x.1 = t)) = [] := List.filter_eq_nil_iff.2 fun a ha => by
      have := (stay_mem.1 ha).2
      simp
      omega
    have h2 : [e].filter (fun x => decide (x.1 = t)) = [e] := List.filter_cons_of_pos (by simpa using ht)
    rw [h2, List.filter_cons_of_pos (by simpa using ht), h1, List.append_nil]
  · have h2 : [e].filter (fun x => decide (x.1 = t)) = [] := List.filter_cons_of_neg (by simpa using ht)
    rw [h2, List.filter_cons_of_neg (by simpa using ht), List.append_nil]
/-- The events of one list, one by one, each behind all whose tick is no more. -/
def gath (l : List Ev) (es : List Ev) : List Ev := es.foldl (fun l e => insL e l) l
theorem gath_sd : ∀ (es l : List Ev), Sd l → Sd (gath l es)
  | [], _, h => h
  | e :: es, l, h => gath_sd es _ (h.ins e)
theorem gath_stb : ∀ (es l : List Ev), Stb (l ++ es) (gath l es)
  | [], l => by rw [List.append_nil]; exact Stb.refl _
  | e :: es, l => by
    have h1 := gath_stb es (insL e l)
    have h2 : Stb (l ++ [e] ++ es) (insL e l ++ es) := (stb_ins e l).app (Stb.refl es)
    rw [List.append_assoc] at h2
    exact h2.trans h1
theorem gath_len : ∀ (es l : List Ev), (gath l es).length = l.length + es.length
  | [], l => by simp [gath]
  | e :: es, l => by
    have := gath_len es (insL e l)
    rw [ins_len] at this
    rw [List.length_cons]
    show (gath (insL e l) es).length = _
    omega
theorem sorted_gath {xs ys : List Ev} (h : Sd ys) (hs : Stb xs ys) : ys = gath [] xs := stb_one h (gath_sd xs [] List.Pairwise.nil) (hs.symm.trans (gath_stb xs []))

/-! ### Ticks by places -/

/-- The tick at a place; 0 beyond. -/
def kf (l : List Ev) (p : Nat) : Nat := ((l[p]?).map fun e => e.1).getD 0
theorem kf_at {l : List Ev} {p : Nat} (h : p < l.length) : kf l p = l[p].1 := by
  unfold kf
  rw [List.getElem?_eq_getElem h]
  rfl
/-- In turn from a to b. -/
def SR (l : List Ev) (a b : Nat) : Prop := ∀ p q, a ≤ p → p ≤ q → q < b → kf l p ≤ kf l q
theorem sd_of_sr {l : List Ev} (h : SR l 0 l.length) : Sd l := List.pairwise_iff_getElem.2 fun i j hi hj hij => by
  have := h i j (Nat.zero_le _) (Nat.le_of_lt hij) hj
  rwa [kf_at hi, kf_at hj] at this
/-- From l to l', of which a to b was turned. -/
structure Rs (l l' : List Ev) (a b : Nat) : Prop where
  len : l'.length = l.length
  stb : Stb l l'
  off : ∀ p, p < a ∨ b ≤ p → kf l' p = kf l p
theorem Rs.refl (l : List Ev) (a b : Nat) : Rs l l a b := ⟨rfl, Stb.refl _, fun _ _ => rfl⟩
theorem Rs.trans {l l' l'' : List Ev} {a b : Nat} (h : Rs l l' a b) (k : Rs l' l'' a b) : Rs l l'' a b := ⟨k.len.trans h.len, h.stb.trans k.stb, fun p hp => (k.off p hp).trans (h.off p hp)⟩
theorem Rs.mono {l l' : List Ev} {a b a' b' : Nat} (h : Rs l l' a b) (ha : a' ≤ a) (hb : b ≤ b') : Rs l l' a' b' := ⟨h.len, h.stb, fun p hp => h.off p (by omega)⟩

/-- Two neighbours, exchanged. -/
def swp (l : List Ev) (i j : Nat) : List Ev := match l[i]?, l[j]? with
  | some x, some y => (l.set i y).set j x
  | _, _ => l
theorem swp_eq {l : List Ev} {i j : Nat} (hi : i < l.length) (hj : j < l.length) : swp l i j = (l.set i l[j]).set j l[i] := by
  unfold swp
  rw [List.getElem?_eq_getElem hi, List.getElem?_eq_getElem hj]
theorem swp_len (l : List Ev) (i j : Nat) : (swp l i j).length = l.length := by
  unfold swp
  split <;> simp
theorem swp_kf {l : List Ev} {i j : Nat} (hi : i < l.length) (hj : j < l.length) (p : Nat) : kf (swp l i j) p = if p = j then kf l i else if p = i then kf l j else kf l p := by
  rw [swp_eq hi hj]
  unfold kf
  rw [List.getElem?_set, List.getElem?_set]
  by_cases h1 : p = j
  · subst h1
    rw [if_pos rfl, if_pos rfl, if_pos (by rw [List.length_set]; exact hj), List.getElem?_eq_getElem hi]
  · rw [if_neg (Ne.symm h1), if_neg h1]
    by_cases h2 : p = i
    · subst h2
      rw [if_pos rfl, if_pos rfl, if_pos hi, List.getElem?_eq_getElem hj]
    · rw [if_neg (Ne.symm h2), if_neg h2]
/-- The list as three parts around two neighbours. -/
theorem two_parts {l : List Ev} {i : Nat} (h : i + 1 < l.length) : l = l.take i ++ ([l[i]] ++ [l[i + 1]]) ++ l.drop (i + 2) := by
  have h1 : l.drop i = l[i] :: l[i + 1] :: l.drop (i + 2) := by rw [List.drop_eq_getElem_cons (by omega), List.drop_eq_getElem_cons (by omega)]
  conv => lhs; rw [← List.take_append_drop i l, h1]
  simp
theorem swp_parts {l : List Ev} {i : Nat} (h : i + 1 < l.length) : swp l i (i + 1) = l.take i ++ ([l[i + 1]] ++ [l[i]]) ++ l.drop (i + 2) := by
  rw [swp_eq (by omega) h]
  apply List.ext_getElem
  · simp
    omega
  · intro p h1 h2
    have hl : (l.take i).length = i := by rw [List.length_take]; omega
    rw [List.getElem_set, List.getElem_set]
    by_cases c1 : i + 1 = p
    · rw [if_pos c1]
      subst c1
      rw [List.getElem_append_left (by simp; omega), List.getElem_append_right (by omega)]
      simp [hl]
    · rw [if_neg c1]
      by_cases c2 : i = p
      · rw [if_pos c2]
        subst c2
        rw [List.getElem_append_left (by simp; omega), List.getElem_append_right (by omega)]
        simp [hl]
      · rw [if_neg c2]
        rcases Nat.lt_or_ge p i with c3 | c3
        · rw [List.getElem_append_left (by simp; omega), List.getElem_append_left (by omega), List.getElem_take]
        · rw [List.getElem_append_right (by simp; omega), List.getElem_drop]
          congr 1
          simp
          omega
/-- Two neighbours of unlike ticks, exchanged. -/
theorem swp_stb {l : List Ev} {i : Nat} (h : i + 1 < l.length) (hne : kf l i ≠ kf l (i + 1)) : Stb l (swp l i (i + 1)) := by
  rw [swp_parts h]
  have e := two_parts h
  rw [kf_at (by omega), kf_at h] at hne
  have h1 : Stb ([l[i]] ++ [l[i + 1]]) ([l[i + 1]] ++ [l[i]]) := stb_swap fun x hx y hy => by
    have ex := List.mem_singleton.1 hx
    have ey := List.mem_singleton.1 hy
    subst ex ey
    exact hne
  have h2 := ((Stb.refl (l.take i)).app h1).app (Stb.refl (l.drop (i + 2)))
  rw [← e] at h2
  exact h2
theorem swp_comm {l : List Ev} {i j : Nat} (hij : i ≠ j) : swp l i j = swp l j i := by
  unfold swp
  cases h1 : l[i]? with
  | none => cases h2 : l[j]? <;> rfl
  | some x =>
    cases h2 : l[j]? with
    | none => rfl
    | some y => exact List.set_comm _ _ hij
theorem swp_rs {l : List Ev} {i a b : Nat} (h : i + 1 < l.length) (hne : kf l i ≠ kf l (i + 1)) (ha : a ≤ i) (hb : i + 2 ≤ b) : Rs l (swp l i (i + 1)) a b :=
  ⟨swp_len _ _ _, swp_stb h hne, fun p hp => by rw [swp_kf (by omega) h, if_neg (by omega), if_neg (by omega)]⟩
end Go.Proofs.So
end
section
/-
  A region that draws its order, walked by facts, all of it: of each operation one fact on the values and the world; each is shown out of the facts of those that it waits for; a fact lasts over the operations that may come up behind it. Stores, and operations without a slot, are let in.
-/
namespace Go.Proofs.Rf
open Go Go.RowKit

def dstO (ops : Array Oper) (i : Nat) : Option Nat := (ops[i]?).bind (·.dst)
def putO (ops : Array Oper) (us : Nat → Value) : Nat → Act → Act
  | 0, a => a
  | n + 1, a => (putO ops us n a).put (dstO ops n) (us n)
def upd (us : Nat → Value) (i : Nat) (v : Value) : Nat → Value := fun j => if j = i then v else us j
/-- What a slot held ahead of the region. -/
def initO (ops : Array Oper) (a : Act) (i : Nat) : Value := match dstO ops i with | some d => a.tmps.getD d undef | none => undef

/-- Each operation has a slot of its own, or none; it waits for earlier ones alone. -/
def okB (ops : Array Oper) (size : Nat) : Bool :=
  (List.range ops.size).all fun i =>
    (match dstO ops i with | some d => decide (d < size) && (List.range ops.size).all (fun j => j == i || dstO ops j != some d) | none => true) &&
    ((ops[i]?).map (·.after.all fun e => !Region.binds .any e || decide (e.on < i))).getD false

theorem putO_same {ops : Array Oper} {us vs : Nat → Value} {a : Act} : ∀ n, (∀ j, j < n → us j = vs j ∨ dstO ops j = none) → putO ops us n a = putO ops vs n a
  | 0, _ => rfl
  | n + 1, h => by
    rw [putO, putO, putO_same n (fun j hj => h j (by omega))]
    rcases h n (by omega) with e | e
    · rw [e]
    · rw [e]; rfl

theorem putO_put {ops : Array Oper} {us : Nat → Value} {a : Act} {i : Nat} {v : Value} : ∀ n, i < n → (∀ d, dstO ops i = some d → ∀ j, j < n → j ≠ i → dstO ops j ≠ some d) →
    (putO ops us n a).put (dstO ops i) v = putO ops (upd us i v) n a
  | 0, h, _ => absurd h (by omega)
  | n + 1, h, hd => by
    rw [putO, putO]
    by_cases e : i = n
    · subst e
      rw [putO_same (us := us) (vs := upd us i v) i (fun j hj => .inl (by simp [upd]; omega)), show upd us i v i = v by simp [upd]]
      cases dstO ops i with
      | none => rfl
      | some d => rw [put_put]
    · have hu : upd us i v n = us n := by simp [upd]; omega
      rw [Act.put_comm _ _ _ (fun d h1 h2 => by first | exact hd d h2 n (by omega) (by omega) h1 | exact hd d h1 n (by omega) (by omega) h2), putO_put n (by omega) (fun d hdd j hj => hd d hdd j (by omega)), hu]

theorem putO_start {ops : Array Oper} {a : Act} : ∀ n, (∀ j d, j < n → dstO ops j = some d → d < a.tmps.size) → putO ops (initO ops a) n a = a
  | 0, _ => rfl
  | n + 1, h => by
    rw [putO, putO_start n (fun j d hj => h j d (by omega))]
    unfold initO
    cases hd : dstO ops n with
    | none => rfl
    | some d => exact put_get a d (h n d (by omega) hd)

section
variable {P : Program} {ops : Array Oper} {Q : Exit → Act → World → Prop} {a0 : Act} {w0 : World}

theorem facts_all (G : World → Prop) (F : Nat → (Nat → Value) → World → Prop) (E : Nat → World → World → Prop) (hB : okB ops a0.tmps.size = true)
    (hloc : ∀ i us us' W, (∀ j, (j = i ∨ waits ops i j = true) → us j = us' j) → F i us W → F i us' W)
    (hst : ∀ i j us W W', i ≠ j → waits ops i j = false → i < ops.size → j < ops.size → E j W W' → F i us W → F i us W')
    (hG : ∀ j W W', E j W W' → G W → G W')
    (hop : ∀ i, i < ops.size → ∀ (us : Nat → Value) (W : World), G W → (∀ j, waits ops i j = true → F j us W) → (∀ j, waits ops j i = true → us j = initO ops a0 j) →
      wpOp P ops Q i (fun a' W' => ∃ v, a' = (putO ops us ops.size a0).put (dstO ops i) v ∧ E i W W' ∧ F i (upd us i v) W') (putO ops us ops.size a0) W)
    (hend : ∀ (us : Nat → Value) (W : World), G W → (∀ i, i < ops.size → F i us W) → Q .normal (putO ops us ops.size a0) W) :
    ∀ (m : Nat) (listed : Array Bool) (us : Nat → Value) (W : World), listed.size = ops.size →
      (∀ j oj, ops[j]? = some oj → listed.getD j false = true → ∀ e ∈ oj.after, Region.binds .any e = true → listed.getD e.on false = true) →
      (∀ j, j < ops.size → listed.getD j false = false → us j = initO ops a0 j) → unl (fun i => listed.getD i false) ops.size = m → G W → (∀ i, i < ops.size → listed.getD i false = true → F i us W) →
      wpAny P .any ops Q m listed (putO ops us ops.size a0) W := by
  have hB' : ∀ i, i < ops.size → (∀ d, dstO ops i = some d → d < a0.tmps.size ∧ ∀ j, j < ops.size → j ≠ i → dstO ops j ≠ some d) ∧ ∃ o, ops[i]? = some o ∧ ∀ e ∈ o.after, Region.binds .any e = true → e.on < i := by
    intro i hi
    have h := List.all_eq_true.1 hB i (List.mem_range.2 hi)
    simp only [Bool.and_eq_true] at h
    refine ⟨fun d hd => ?_, ?_⟩
    · rw [hd] at h
      simp only [Bool.and_eq_true, decide_eq_true_eq] at h
      refine ⟨h.1.1, fun j hj hne => ?_⟩
      have := List.all_eq_true.1 h.1.2 j (List.mem_range.2 hj)
      simpa [hne] using this
    · have h2 := h.2
      cases ho : ops[i]? with
      | none => rw [ho] at h2; simp at h2
      | some o =>
        rw [ho] at h2
        simp only [Option.map_some, Option.getD_some, Array.all_eq_true_iff_forall_mem, Bool.or_eq_true, Bool.not_eq_true', decide_eq_true_eq] at h2
        exact ⟨o, rfl, fun e he hb => (h2 e he).resolve_left (by simp [hb])⟩
  have hsz : ∀ {l : Array Bool} {j : Nat}, l.size = ops.size → j < ops.size → l.getD j true = l.getD j false := by
    intro l j hl hj
    simp [Array.getD, hl, hj]
  intro m
  induction m with
  | zero =>
    intro listed us W hl hcl hin hu hg hf
    have hall := unl_zero ops.size hu
    refine ⟨?_, hend us W hg (fun i hi => hf i hi (hall i hi))⟩
    cases hr : Region.ready .any ops listed with
    | nil => rfl
    | cons i r =>
      have hi : i ∈ Region.ready .any ops listed := by rw [hr]; simp
      rw [mem_ready] at hi
      obtain ⟨h1, o, ho, _⟩ := hi
      have hilt : i < ops.size := (Array.getElem?_eq_some_iff.1 ho).1
      rw [hsz hl hilt, hall i hilt] at h1
      cases h1
  | succ m ih =>
    intro listed us W hl hcl hin hu hg hf
    obtain ⟨i0, hi0, hi0f, hi0l⟩ := exists_least (f := fun i => listed.getD i false) ops.size (by omega)
    refine ⟨fun h0 => ?_, fun i hi => ?_⟩
    · obtain ⟨_, o, ho, hon⟩ := hB' i0 hi0
      have : i0 ∈ Region.ready .any ops listed := by
        rw [mem_ready]
        exact ⟨by rw [hsz hl hi0]; exact hi0f, o, ho, fun e he hb => hi0l e.on (hon e he hb)⟩
      rw [h0] at this
      cases this
    · rw [mem_ready] at hi
      obtain ⟨hi1, o, ho, hdep⟩ := hi
      have hilt : i < ops.size := (Array.getElem?_eq_some_iff.1 ho).1
      have hfi : listed.getD i false = false := by rw [← hsz hl hilt]; exact hi1
      have hwl : ∀ j, waits ops i j = true → j < ops.size ∧ listed.getD j false = true := by
        intro j hw
        obtain ⟨o', ho', e, he, hb, hon⟩ := waits_spec hw
        rw [ho] at ho'; cases ho'
        subst hon
        have h1 := (hB' i hilt).2
        obtain ⟨o2, ho2, h2⟩ := h1
        rw [ho] at ho2; cases ho2
        exact ⟨Nat.lt_trans (h2 e he hb) hilt, hdep e he hb⟩
      have hnw : ∀ j, j < ops.size → waits ops j i = true → listed.getD j false = false := by
        intro j hj hw
        obtain ⟨oj, hoj, e, he, hb, hon⟩ := waits_spec hw
        cases hlj : listed.getD j false with
        | false => rfl
        | true =>
          have := hcl j oj hoj hlj e he hb
          rw [hon, hfi] at this
          cases this
      refine wpOp_mono ?_ (hop i hilt us W hg (fun j hw => hf j (hwl j hw).1 (hwl j hw).2) (fun j hw => ?_))
      · rintro a' W' ⟨v, rfl, hE, hFv⟩
        rw [putO_put ops.size hilt (fun d hd j hj hne => ((hB' i hilt).1 d hd).2 j hj hne)]
        refine ih _ _ W' (by simp [hl]) ?_ ?_ ?_ (hG i W W' hE hg) ?_
        · intro j oj hj hjl e he hb
          by_cases hji : i = j
          · subst hji
            rw [ho] at hj; cases hj
            exact getD_set_true (hdep e he hb)
          · rw [getD_set_ne false hji] at hjl
            exact getD_set_true (hcl j oj hj hjl e he hb)
        · intro j hj hjl
          by_cases hji : i = j
          · subst hji
            simp [Array.getD, hl, hilt] at hjl
          · rw [getD_set_ne false hji] at hjl
            rw [show upd us i v j = us j by simp [upd]; omega]
            exact hin j hj hjl
        · have := unl_set (f := fun j => listed.getD j false) (g := fun j => (listed.setIfInBounds i true).getD j false) (i := i) hfi (by simp [Array.getD, hl, hilt]) (fun j hj => getD_set_ne false (Ne.symm hj)) ops.size hilt
          omega
        · intro j hj hjl
          by_cases hji : j = i
          · subst hji; exact hFv
          · rw [getD_set_ne false (Ne.symm hji)] at hjl
            have hwji : waits ops j i = false := by
              cases hw : waits ops j i with
              | false => rfl
              | true => have := hnw j hj hw; rw [hjl] at this; cases this
            refine hloc j us _ W' (fun k hk => ?_) (hst j i us W W' hji hwji hj hilt hE (hf j hj hjl))
            have hki : k ≠ i := by
              rintro rfl
              rcases hk with rfl | hk
              · exact hji rfl
              · rw [hk] at hwji; cases hwji
            simp [upd, hki]
      · have hj : j < ops.size := by
          obtain ⟨oj, hoj, _⟩ := waits_spec hw
          exact (Array.getElem?_eq_some_iff.1 hoj).1
        exact hin j hj (hnw j hj hw)

theorem unl_none {size : Nat} : ∀ k, k ≤ size → unl (fun i => (Array.replicate size false).getD i false) k = k
  | 0, _ => rfl
  | k + 1, h => by
    have e : (Array.replicate size false).getD k false = false := by simp [Array.getD, show k < size by omega]
    rw [unl, unl_none k (by omega), e]; simp
end

/-- The law for a region of code: all its operations by facts. 'fr us': the frame with the values us in the operations' slots. -/
theorem region_all {P : Program} {Q : Exit → Act → World → Prop} {id : Nat} {a : Act} {w : World} {l : List Oper} {fr : (Nat → Value) → Act} (F : Nat → (Nat → Value) → World → Prop) (E : Nat → World → World → Prop) (G : World → Prop)
    (hm : P.follows .mixedOrders = true) (hB : okB l.toArray a.tmps.size = true)
    (hfr : ∀ us, putO l.toArray us l.length a = fr us)
    (hloc : ∀ i us us' W, (∀ j, (j = i ∨ waits l.toArray i j = true) → us j = us' j) → F i us W → F i us' W)
    (hst : ∀ i j us W W', i ≠ j → waits l.toArray i j = false → i < l.length → j < l.length → E j W W' → F i us W → F i us W')
    (hG0 : G w.drew) (hG : ∀ j W W', E j W W' → G W → G W')
    (hop : ∀ i, i < l.length → ∀ (us : Nat → Value) (W : World), G W → (∀ j, waits l.toArray i j = true → F j us W) → (∀ j, waits l.toArray j i = true → us j = initO l.toArray a j) →
      wpOp P l.toArray Q i (fun a' W' => ∃ v, a' = (fr us).put (dstO l.toArray i) v ∧ E i W W' ∧ F i (upd us i v) W') (fr us) W)
    (hend : ∀ (us : Nat → Value) (W : World), G W → (∀ i, i < l.length → F i us W) → Q .normal (fr us) W) :
    (Code.region id l.toArray true).wp P Q a w := by
  refine wp_region_any hm ?_
  have hs : l.toArray.size = l.length := by simp
  have hd : ∀ j d, j < l.length → dstO l.toArray j = some d → d < a.tmps.size := by
    intro j d hj hd
    have h := List.all_eq_true.1 hB j (List.mem_range.2 (by rw [hs]; exact hj))
    simp only [Bool.and_eq_true] at h
    rw [hd] at h
    simp only [Bool.and_eq_true, decide_eq_true_eq] at h
    exact h.1.1
  have := facts_all (P := P) (ops := l.toArray) (Q := Q) (a0 := a) G F E hB hloc (fun i j us W W' h1 h2 h3 h4 => hst i j us W W' h1 h2 (by rw [← hs]; exact h3) (by rw [← hs]; exact h4)) hG
    (fun i hi us W hg hw hq => by rw [hs, hfr]; exact hop i (by rw [← hs]; exact hi) us W hg hw hq)
    (fun us W hg hf => by rw [hs, hfr]; exact hend us W hg (fun i hi => hf i (by rw [hs]; exact hi)))
    l.toArray.size (Array.replicate l.toArray.size false) (initO l.toArray a) w.drew (by simp)
    (fun j oj _ hl => by simp [Array.getD] at hl) (fun _ _ _ => rfl) (unl_none _ (Nat.le_refl _)) hG0 (fun i _ hl => by simp [Array.getD] at hl)
  rw [hs, putO_start l.length hd] at this
  rw [hs]
  exact this

section
variable {P : Program} {ops : Array Oper} {Q : Exit → Act → World → Prop} {a : Act} {W : World} {i : Nat} {o : Oper} {E : World → Prop} {F : Value → World → Prop}

/-- An operation that yields a value. -/
theorem all_value (hi : ops[i]? = some o) (hw : Region.wanted o (yielded ops a.tmps) = true) (v : Value) (W' : World) (hrun : (execOp a.eval o).run P W = .ok (.value v) W') (hE : E W') (hF : F v W') :
    wpOp P ops Q i (fun a' W' => ∃ v, a' = a.put (dstO ops i) v ∧ E W' ∧ F v W') a W := by
  unfold wpOp
  have hd : dstO ops i = o.dst := by simp [dstO, hi]
  simp only [hi, hw, if_true]
  refine .inl ?_
  unfold Oper.wp
  rw [hrun, Oper.upon_value, hd]
  exact ⟨v, rfl, hE, hF⟩

/-- An operation that hands nothing on (a store). -/
theorem all_skip (hi : ops[i]? = some o) (hw : Region.wanted o (yielded ops a.tmps) = true) (W' : World) (hrun : (execOp a.eval o).run P W = .ok .skip W') (hE : E W') (hF : F undef W') :
    wpOp P ops Q i (fun a' W' => ∃ v, a' = a.put (dstO ops i) v ∧ E W' ∧ F v W') a W := by
  unfold wpOp
  have hd : dstO ops i = o.dst := by simp [dstO, hi]
  simp only [hi, hw, if_true]
  refine .inl ?_
  unfold Oper.wp
  rw [hrun]
  unfold Oper.upon
  rw [hd]
  exact ⟨undef, rfl, hE, hF⟩

/-- An operation that calls. -/
theorem all_call (hi : ops[i]? = some o) (hw : Region.wanted o (yielded ops a.tmps) = true) (f : FuncId) (args : Array Value) (hrun : (execOp a.eval o).run P W = .ok (.enter f args) W)
    (hc : Calls P f args W fun e W' => ∃ v, e = .returned v ∧ E W' ∧ F v W') :
    wpOp P ops Q i (fun a' W' => ∃ v, a' = a.put (dstO ops i) v ∧ E W' ∧ F v W') a W := by
  unfold wpOp
  have hd : dstO ops i = o.dst := by simp [dstO, hi]
  simp only [hi, hw, if_true]
  refine .inl ?_
  unfold Oper.wp
  rw [hrun, Oper.upon_enter]
  refine hc.mono ?_
  rintro e W' ⟨v, rfl, hG, hF⟩
  exact ⟨v, by rw [hd], hG, hF⟩

/-- An operation that its guard passes over. -/
theorem all_off (hi : ops[i]? = some o) (hw : Region.wanted o (yielded ops a.tmps) = false) (hE : E W) (hF : F undef W) :
    wpOp P ops Q i (fun a' W' => ∃ v, a' = a.put (dstO ops i) v ∧ E W' ∧ F v W') a W := by
  unfold wpOp
  have hd : dstO ops i = o.dst := by simp [dstO, hi]
  simp only [hi, hw, hd]
  exact ⟨undef, rfl, hE, hF⟩
end

end Go.Proofs.Rf
end
section
/- For regions that call Add and lay what it tells into a new variable: facts that last. -/
namespace Go.Proofs.Ythncmjimfkbofaa
open Go.RowKit Go.Shelf Go.Proofs.Rw Go.Proofs.Lh Go.Proofs.Rf

/-- Three cells of a new block of type T are written. -/
def St3 (T : TypeId) (B : Nat) (W W' : World) : Prop :=
  ∃ (p : Nat) (x y z x' y' z' : Value), B ≤ p ∧ W.heap[p]? = some (.cells #[x, y, z] T) ∧ W'.heap[p]? = some (.cells #[x', y', z'] T) ∧ W.grownBy W' (some p)
/-- What operation j of the region does; s is the store's number. -/
def Ea (T : TypeId) (B s j : Nat) (W W' : World) : Prop := Grows W W' ∨ (j = s ∧ St3 T B W W')
theorem Ea.below {T : TypeId} {B s j : Nat} {w W W' : World} (h : Ea T B s j W W') (hg : Below B w W) (hB : B ≤ W.heap.size) : Below B w W' := by
  rcases h with h | ⟨_, p, x, y, z, x', y', z', hp, _, _, hgr⟩
  · exact hg.trans (Below.mono h hB)
  · exact hg.grown hgr hB fun k e => by cases e; exact hp
/-- A new variable. -/
def Nw3 (T : TypeId) (B : Nat) (u : Value) (W : World) : Prop := ∃ (p : Nat) (x y z : Value), u = .pointer (some ⟨p, 0, none⟩) ∧ B ≤ p ∧ W.heap[p]? = some (.cells #[x, y, z] T)
theorem Nw3.ea {T : TypeId} {B s j : Nat} {W W' : World} (h : Ea T B s j W W') {u : Value} (hf : Nw3 T B u W) : Nw3 T B u W' := by
  obtain ⟨p, x, y, z, h3, h4, h5⟩ := hf
  rcases h with h | ⟨_, p', a, b, c, a', b', c', hp, hq, hq', hgr⟩
  · exact ⟨p, x, y, z, h3, h4, (Below.block h p (lt_of h5)).trans h5⟩
  · by_cases e : p = p'
    · subst e
      exact ⟨p, a', b', c', h3, h4, hq'⟩
    · exact ⟨p, x, y, z, h3, h4, (hgr.block p (lt_of h5) (by simpa using e)).trans h5⟩
/-- The store. -/
theorem st3_set {T : TypeId} {B p : Nat} {W : World} {x y z : Value} (hp : B ≤ p) (h : W.heap[p]? = some (.cells #[x, y, z] T)) (x' y' z' : Value) : St3 T B W (((W.setCell ⟨p, 0, none⟩ x').setCell ⟨p, 1, none⟩ y').setCell ⟨p, 2, none⟩ z') :=
  ⟨p, x, y, z, x', y', z', hp, h, set3 h x' y' z', grown3 x' y' z'⟩
theorem keep3 {p q : Nat} {W : World} (hne : q ≠ p) (x' y' z' : Value) : (((W.setCell ⟨p, 0, none⟩ x').setCell ⟨p, 1, none⟩ y').setCell ⟨p, 2, none⟩ z').heap[q]? = W.heap[q]? := by
  rw [Below.heap_setCell _ _ _ _ hne, Below.heap_setCell _ _ _ _ hne, Below.heap_setCell _ _ _ _ hne]

end Go.Proofs.Ythncmjimfkbofaa
end
