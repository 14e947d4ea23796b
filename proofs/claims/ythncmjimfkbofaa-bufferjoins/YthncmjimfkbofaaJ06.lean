/- The contract of hist.Same. · The contracts of skylightref06's small functions: Total, Last, at. · A region that draws its order, walked by facts: first what yields the same in every world; then of each of n operations one fact on its value and the world, that lasts while the world grows; each operation is shown its fact out of those of the operations that it waits for. Then the rest, that leaves the world as it is, in the order of the text. · The contract of hist.refusal. -/
import Derived.Test.YthncmjimfkbofaaJ05
import Derived.Test.YthncmjimfkbofaaJ03
import Derived.Still
import Derived.Deep.Quiet
import Derived.Deep.Draws
import Derived.Below
section
/- The contract of hist.Same. -/
namespace Go.Proofs.Ythncmjimfkbofaa
open Go.RowKit Go.Shelf Go.Proofs.Rw Go.Proofs.Lh Go.Proofs.Rn

/-- Whether two histograms are the same. -/
def sameB (ka ga kb gb : Int) (la lb : Lv) : Bool := decide (ka = kb ∧ ga = gb ∧ la = lb)

end Go.Proofs.Ythncmjimfkbofaa
end
section
/- The contracts of skylightref06's small functions: Total, Last, at. -/
namespace Go.Proofs.Ythncmjimfkbofaa
open Go.RowKit Go.Proofs.Rw Go.Proofs.Lh

end Go.Proofs.Ythncmjimfkbofaa
end
section
/-
  A region that draws its order, walked by facts: first what yields the same in every world; then of each of n operations one fact on its value and the world, that lasts while the world grows; each operation is shown its fact out of those of the operations that it waits for. Then the rest, that leaves the world as it is, in the order of the text.
-/
namespace Go.Proofs.Rf
open Go Go.RowKit

/-- The slot that operation i writes. -/
def dstOf (ops : Array Oper) (i : Nat) : Nat := ((ops[i]?).bind (·.dst)).getD 0

/-- Operation i waits for operation j. -/
def waits (ops : Array Oper) (i j : Nat) : Bool :=
  match ops[i]? with
  | some o => o.after.any fun e => Region.binds .any e && e.on == j
  | none => false

/-- The values of the operations s to s + n - 1 laid into their slots. -/
def putAll (ops : Array Oper) (us : Nat → Value) (s : Nat) : Nat → Act → Act
  | 0, a => a
  | n + 1, a => (putAll ops us s n a).put (some (dstOf ops (s + n))) (us (s + n))

/-- The first n operations have come up, no other one. -/
def firstN (size n : Nat) : Array Bool := ((List.range size).map fun i => decide (i < n)).toArray

/-- What is asked of the operations from s on up to e: each has a slot of its own; each waits for earlier ones alone; each but the last is waited for by a later one of them; each operation behind them waits for the last one of them or for one behind it. -/
def headB (ops : Array Oper) (s e size : Nat) : Bool :=
  decide (s < e) && decide (e ≤ ops.size) &&
  ((List.range e).all fun i => decide (i < s) || (((ops[i]?).map (·.dst.isSome)).getD false && decide (dstOf ops i < size) &&
    ((List.range e).all fun j => decide (j < s) || j == i || dstOf ops j != dstOf ops i))) &&
  ((List.range e).all fun i => ((ops[i]?).map (·.after.all fun e => decide (e.on < i))).getD false) &&
  ((List.range (e - 1)).all fun i => decide (i < s) || ((List.range e).any fun j => decide (i < j) && waits ops j i)) &&
  ((List.range ops.size).all fun t => decide (t < e) || ((List.range t).any fun j => decide (e ≤ j + 1) && waits ops t j))

/-- How many of the first n have not come up. -/
def unl (f : Nat → Bool) : Nat → Nat
  | 0 => 0
  | n + 1 => unl f n + if f n then 0 else 1

theorem unl_congr {f g : Nat → Bool} : ∀ n, (∀ j, j < n → f j = g j) → unl f n = unl g n
  | 0, _ => rfl
  | n + 1, h => by rw [unl, unl, unl_congr n (fun j hj => h j (by omega)), h n (by omega)]

theorem unl_set {f g : Nat → Bool} {i : Nat} (hi : f i = false) (hg : g i = true) (ho : ∀ j, j ≠ i → g j = f j) : ∀ n, i < n → unl g n + 1 = unl f n
  | 0, h => absurd h (by omega)
  | n + 1, h => by
    by_cases e : i = n
    · subst e
      rw [unl, unl, unl_congr i (fun j hj => ho j (by omega)), hi, hg]; simp
    · have := unl_set hi hg ho n (by omega)
      rw [unl, unl, ho n (by omega)]; omega

theorem unl_zero {f : Nat → Bool} : ∀ n, unl f n = 0 → ∀ j, j < n → f j = true
  | 0, _, j, h => absurd h (by omega)
  | n + 1, h0, j, h => by
    rw [unl] at h0
    by_cases e : j = n
    · subst e
      cases hf : f j with
      | true => rfl
      | false => rw [hf] at h0; simp at h0
    · exact unl_zero n (by omega) j (by omega)

theorem exists_least {f : Nat → Bool} : ∀ n, unl f n ≠ 0 → ∃ i, i < n ∧ f i = false ∧ ∀ j, j < i → f j = true
  | 0, h => absurd rfl h
  | n + 1, h => by
    by_cases h' : unl f n = 0
    · have ht := unl_zero n h'
      rw [unl, h'] at h
      cases hf : f n with
      | true => rw [hf] at h; simp at h
      | false => exact ⟨n, by omega, hf, ht⟩
    · obtain ⟨i, hi, r⟩ := exists_least n h'
      exact ⟨i, by omega, r⟩

theorem put_put (a : Act) (d : Nat) (u v : Value) : (a.put (some d) u).put (some d) v = a.put (some d) v := by simp [Act.put]

theorem putAll_same {ops : Array Oper} {us vs : Nat → Value} {a : Act} {s : Nat} : ∀ n, (∀ j, j < s + n → us j = vs j) → putAll ops us s n a = putAll ops vs s n a
  | 0, _ => rfl
  | n + 1, h => by rw [putAll, putAll, putAll_same n (fun j hj => h j (by omega)), h (s + n) (by omega)]

theorem putAll_put {ops : Array Oper} {us : Nat → Value} {a : Act} {s i : Nat} {v : Value} (hsi : s ≤ i) : ∀ n, i < s + n → (∀ j, s ≤ j → j < s + n → j ≠ i → dstOf ops j ≠ dstOf ops i) →
    (putAll ops us s n a).put (some (dstOf ops i)) v = putAll ops (fun j => if j = i then v else us j) s n a
  | 0, h, _ => absurd h (by omega)
  | n + 1, h, hd => by
    rw [putAll, putAll]
    by_cases e : i = s + n
    · subst e
      rw [put_put, if_pos rfl, putAll_same (us := us) (vs := fun j => if j = s + n then v else us j) n (fun j hj => by rw [if_neg (by omega)])]
    · have hne := hd (s + n) (by omega) (by omega) (by omega)
      rw [Act.put_comm _ _ _ (fun d h1 h2 => hne (by injection h1 with h1; injection h2 with h2; omega)), putAll_put hsi n (by omega) (fun j h1 h2 => hd j h1 (by omega)), if_neg (by omega)]

theorem put_get (a : Act) (d : Nat) (h : d < a.tmps.size) : a.put (some d) (a.tmps.getD d undef) = a := by
  cases a with
  | mk tmps defers =>
    simp only [Act.put]
    congr 1
    apply Array.ext
    · simp
    · intro i h1 h2
      rw [Array.getElem_setIfInBounds]
      split
      · rename_i e; subst e; simp
      · rfl

theorem putAll_start {ops : Array Oper} {a : Act} {s : Nat} : ∀ n, (∀ j, s ≤ j → j < s + n → dstOf ops j < a.tmps.size) → putAll ops (fun j => a.tmps.getD (dstOf ops j) undef) s n a = a
  | 0, _ => rfl
  | n + 1, h => by rw [putAll, putAll_start n (fun j h1 h2 => h j h1 (by omega)), put_get a _ (h (s + n) (by omega) (by omega))]

theorem firstN_getD {size n j : Nat} (d : Bool) (h : j < size) : (firstN size n).getD j d = decide (j < n) := by simp [firstN, Array.getD, h]

section
variable {P : Program} {ops : Array Oper} {Q : Exit → Act → World → Prop} {n : Nat} {a0 : Act} {w0 : World}

theorem waits_spec {i j : Nat} (h : waits ops i j = true) : ∃ o, ops[i]? = some o ∧ ∃ e ∈ o.after, Region.binds .any e = true ∧ e.on = j := by
  unfold waits at h
  split at h
  · rename_i o ho
    obtain ⟨e, he, hb⟩ := Array.any_eq_true'.1 h
    simp only [Bool.and_eq_true, beq_iff_eq] at hb
    exact ⟨o, ho, e, he, hb.1, hb.2⟩
  · cases h

theorem facts_go {s : Nat} (G : World → World → Prop) (hGt : ∀ {A B C : World}, G A B → G B C → G A C)
    (F : Nat → Value → World → Prop) (hF : ∀ i v W W', G W W' → F i v W → F i v W') (hB : headB ops s (s + n) a0.tmps.size = true)
    (hop : ∀ i, s ≤ i → i < s + n → ∀ (us : Nat → Value) (W : World), G w0 W → (∀ j, s ≤ j → j < s + n → waits ops i j = true → F j (us j) W) →
      wpOp P ops Q i (fun a' W' => ∃ v, a' = (putAll ops us s n a0).put (some (dstOf ops i)) v ∧ G W W' ∧ F i v W') (putAll ops us s n a0) W)
    (htail : ∀ (us : Nat → Value) (W : World), G w0 W → (∀ i, s ≤ i → i < s + n → F i (us i) W) → wpAny P .any ops Q (ops.size - (s + n)) (firstN ops.size (s + n)) (putAll ops us s n a0) W) :
    ∀ (m : Nat) (listed : Array Bool) (us : Nat → Value) (W : World), listed.size = ops.size → (∀ j, j < s → listed.getD j false = true) →
      (∀ j oj, ops[j]? = some oj → listed.getD j false = true → ∀ e ∈ oj.after, Region.binds .any e = true → listed.getD e.on false = true) →
      (∀ t, s + n ≤ t → t < ops.size → listed.getD t true = false) → unl (fun i => listed.getD i false) (s + n) = m → G w0 W → (∀ i, s ≤ i → i < s + n → listed.getD i false = true → F i (us i) W) →
      wpAny P .any ops Q (m + (ops.size - (s + n))) listed (putAll ops us s n a0) W := by
  simp only [headB, Bool.and_eq_true, decide_eq_true_eq] at hB
  obtain ⟨⟨⟨⟨⟨hn0, hn⟩, hB1⟩, hB0⟩, hB2⟩, hB3⟩ := hB
  rw [List.all_eq_true] at hB0 hB1 hB2 hB3
  have hD : ∀ i, s ≤ i → i < s + n → ∀ j, s ≤ j → j < s + n → j ≠ i → dstOf ops j ≠ dstOf ops i := by
    intro i hsi hi j hsj hj hne
    have h1 := hB1 i (List.mem_range.2 hi)
    simp only [Bool.and_eq_true, Bool.or_eq_true, decide_eq_true_eq] at h1
    rcases h1 with h1 | h1
    · omega
    · have h2 := List.all_eq_true.1 h1.2 j (List.mem_range.2 hj)
      have hsj' : ¬ j < s := by omega
      simpa [hne, hsj'] using h2
  have hE : ∀ i, i < s + n → ∃ o, ops[i]? = some o ∧ ∀ e ∈ o.after, e.on < i := by
    intro i hi
    have h2 := hB0 i (List.mem_range.2 hi)
    cases ho : ops[i]? with
    | none => rw [ho] at h2; simp at h2
    | some o =>
      rw [ho] at h2
      simp only [Option.map_some, Option.getD_some, Array.all_eq_true_iff_forall_mem, decide_eq_true_eq] at h2
      exact ⟨o, rfl, h2⟩
  have hsz : ∀ {l : Array Bool} {j : Nat}, l.size = ops.size → j < ops.size → l.getD j true = l.getD j false := by
    intro l j hl hj
    simp [Array.getD, hl, hj]
  intro m
  induction m with
  | zero =>
    intro listed us W hl hs hcl ht hu hG hf
    have hall := unl_zero (s + n) hu
    have e : listed = firstN ops.size (s + n) := by
      apply Array.ext
      · simp [firstN, hl]
      · intro i h1 h2
        have h3 : i < ops.size := by omega
        by_cases hi : i < s + n
        · have := hall i hi
          simp only [Array.getD, h1, dif_pos] at this
          simp [firstN, hi]
          simpa using this
        · have := ht i (by omega) h3
          simp only [Array.getD, h1, dif_pos] at this
          simp [firstN, hi]
          simpa using this
    rw [Nat.zero_add, e]
    exact htail us W hG (fun i hsi hi => hf i hsi hi (hall i hi))
  | succ m ih =>
    intro listed us W hl hs hcl ht hu hG hf
    rw [show m + 1 + (ops.size - (s + n)) = (m + (ops.size - (s + n))) + 1 by omega]
    obtain ⟨i0, hi0, hi0f, hi0l⟩ := exists_least (f := fun i => listed.getD i false) (s + n) (by omega)
    refine ⟨fun h0 => ?_, fun i hi => ?_⟩
    · -- something may come up
      obtain ⟨o, ho, hon⟩ := hE i0 hi0
      have : i0 ∈ Region.ready .any ops listed := by
        rw [mem_ready]
        exact ⟨by rw [hsz hl (by omega)]; exact hi0f, o, ho, fun e he _ => hi0l e.on (hon e he)⟩
      rw [h0] at this
      cases this
    · rw [mem_ready] at hi
      obtain ⟨hi1, o, ho, hdep⟩ := hi
      have hilt : i < ops.size := (Array.getElem?_eq_some_iff.1 ho).1
      have hfi : listed.getD i false = false := by rw [← hsz hl hilt]; exact hi1
      have hsi : s ≤ i := by
        rcases Nat.lt_or_ge i s with h | h
        · have := hs i h
          rw [hfi] at this
          cases this
        · exact h
      by_cases hin : i < s + n
      · refine wpOp_mono ?_ (hop i hsi hin us W hG (fun j hsj hj hw => ?_))
        · rintro a' W' ⟨v, rfl, hG', hFv⟩
          rw [putAll_put hsi n hin (fun j h1 h2 h3 => hD i hsi hin j h1 h2 h3)]
          refine ih _ _ W' (by simp [hl]) (fun j hj => getD_set_true (hs j hj)) ?_ ?_ ?_ (hGt hG hG') ?_
          · intro j oj hj hjl e he hb
            by_cases hji : i = j
            · subst hji
              rw [ho] at hj; cases hj
              exact getD_set_true (hdep e he hb)
            · rw [getD_set_ne false hji] at hjl
              exact getD_set_true (hcl j oj hj hjl e he hb)
          · intro t h1 h2
            rw [getD_set_ne true (by omega)]
            exact ht t h1 h2
          · have := unl_set (f := fun j => listed.getD j false) (g := fun j => (listed.setIfInBounds i true).getD j false) (i := i) hfi (by simp [Array.getD, hl, hilt]) (fun j hj => getD_set_ne false (Ne.symm hj)) (s + n) hin
            omega
          · intro j hsj hj hjl
            by_cases hji : j = i
            · subst hji; rw [if_pos rfl]; exact hFv
            · rw [if_neg hji]
              rw [getD_set_ne false (Ne.symm hji)] at hjl
              exact hF _ _ _ _ hG' (hf j hsj hj hjl)
        · obtain ⟨o', ho', e, he, hb, hon⟩ := waits_spec hw
          rw [ho] at ho'; cases ho'
          subst hon
          exact hf e.on hsj hj (hdep e he hb)
      · -- an operation of the rest may not come up yet
        exfalso
        have h3 := hB3 i (List.mem_range.2 hilt)
        simp only [Bool.or_eq_true, decide_eq_true_eq, List.any_eq_true, List.mem_range, Bool.and_eq_true] at h3
        rcases h3 with h3 | ⟨j, hj, hnj, hw⟩
        · exact hin h3
        · obtain ⟨o', ho', e, he, hb, hon⟩ := waits_spec hw
          rw [ho] at ho'; cases ho'
          subst hon
          have hjl := hdep e he hb
          by_cases hjn : s + n ≤ e.on
          · have := ht e.on hjn (by omega)
            rw [hsz hl (by omega), hjl] at this
            cases this
          · have e1 : e.on = s + n - 1 := by omega
            rw [e1] at hjl
            -- the last one has come up: so have all
            have hall : ∀ d, d < n → listed.getD (s + n - 1 - d) false = true := by
              intro d
              induction d using Nat.strongRecOn with
              | _ d ihd =>
                intro hd
                by_cases hd0 : d = 0
                · subst hd0; exact hjl
                · have h2 := hB2 (s + n - 1 - d) (List.mem_range.2 (by omega))
                  simp only [List.any_eq_true, List.mem_range, Bool.and_eq_true, Bool.or_eq_true, decide_eq_true_eq] at h2
                  rcases h2 with h2 | ⟨k, hk, hlt, hwk⟩
                  · omega
                  · have hkl := ihd (s + n - 1 - k) (by omega) (by omega)
                    rw [show s + n - 1 - (s + n - 1 - k) = k by omega] at hkl
                    obtain ⟨ok, hok, e2, he2, hb2, hon2⟩ := waits_spec hwk
                    rw [← hon2]
                    exact hcl k ok hok hkl e2 he2 hb2
            have hi0s : s ≤ i0 := by
              rcases Nat.lt_or_ge i0 s with h | h
              · have := hs i0 h
                rw [hi0f] at this
                cases this
              · exact h
            have := hall (s + n - 1 - i0) (by omega)
            rw [show s + n - 1 - (s + n - 1 - i0) = i0 by omega, hi0f] at this
            cases this

theorem unl_firstN {size s : Nat} : ∀ k, s + k ≤ size → unl (fun i => (firstN size s).getD i false) (s + k) = k := by
  have h0 : ∀ j, j ≤ s → s ≤ size → unl (fun i => (firstN size s).getD i false) j = 0 := by
    intro j
    induction j with
    | zero => intros; rfl
    | succ j ih => intro h1 h2; rw [unl, ih (by omega) h2, firstN_getD false (by omega)]; simp; omega
  intro k
  induction k with
  | zero => intro h; exact h0 s (Nat.le_refl _) (by omega)
  | succ k ih => intro h; rw [show s + (k + 1) = (s + k) + 1 by omega, unl, ih (by omega), firstN_getD false (by omega)]; simp

/-- The law: the first s operations have come up; the next n come up in whatever order. -/
theorem wpAny_facts (s : Nat) (G : World → World → Prop) (hGr : G w0 w0) (hGt : ∀ {A B C : World}, G A B → G B C → G A C)
    (F : Nat → Value → World → Prop) (hF : ∀ i v W W', G W W' → F i v W → F i v W') (hB : headB ops s (s + n) a0.tmps.size = true)
    (hop : ∀ i, s ≤ i → i < s + n → ∀ (us : Nat → Value) (W : World), G w0 W → (∀ j, s ≤ j → j < s + n → waits ops i j = true → F j (us j) W) →
      wpOp P ops Q i (fun a' W' => ∃ v, a' = (putAll ops us s n a0).put (some (dstOf ops i)) v ∧ G W W' ∧ F i v W') (putAll ops us s n a0) W)
    (htail : ∀ (us : Nat → Value) (W : World), G w0 W → (∀ i, s ≤ i → i < s + n → F i (us i) W) → wpAny P .any ops Q (ops.size - (s + n)) (firstN ops.size (s + n)) (putAll ops us s n a0) W) :
    wpAny P .any ops Q (ops.size - s) (firstN ops.size s) a0 w0 := by
  have hB' := hB
  simp only [headB, Bool.and_eq_true, decide_eq_true_eq] at hB'
  obtain ⟨⟨⟨⟨⟨hn0, hn⟩, hB1⟩, hB0⟩, _⟩, _⟩ := hB'
  have hlt : ∀ j, (firstN ops.size s).getD j false = true → j < s := by
    intro j h
    rcases Nat.lt_or_ge j ops.size with h' | h'
    · rw [firstN_getD false h'] at h; simpa using h
    · rw [Array.getD, dif_neg (by simp [firstN]; omega)] at h; cases h
  have := facts_go (s := s) G hGt F hF hB hop htail n (firstN ops.size s) (fun j => a0.tmps.getD (dstOf ops j) undef) w0 (by simp [firstN])
    (fun j hj => by rw [firstN_getD false (by omega)]; simpa using hj)
    (fun j oj hj h e he _ => by
      have hjs := hlt j h
      have h2 := List.all_eq_true.1 hB0 j (List.mem_range.2 (by omega))
      rw [hj] at h2
      simp only [Option.map_some, Option.getD_some, Array.all_eq_true_iff_forall_mem, decide_eq_true_eq] at h2
      have h3 := h2 e he
      rw [firstN_getD false (by omega)]; simp; omega)
    (fun t h1 h2 => by rw [firstN_getD true h2]; simp; omega) (unl_firstN n hn) hGr (fun i hsi _ h => absurd (hlt i h) (by omega))
  rw [putAll_start n (fun j h1 h2 => by
    have h3 := List.all_eq_true.1 hB1 j (List.mem_range.2 h2)
    simp only [Bool.and_eq_true, Bool.or_eq_true, decide_eq_true_eq] at h3
    rcases h3 with h3 | h3
    · omega
    · exact h3.1.2), show n + (ops.size - (s + n)) = ops.size - s by omega] at this
  exact this

/-- Operations that yield the same in every world, one behind the other. -/
def wpPure (P : Program) (ops : Array Oper) (R : Act → Prop) : List Oper → Act → Prop
  | [], a => R a
  | o :: rest, a => if Region.wanted o (yielded ops a.tmps) then ∃ v, (∀ w, (execOp a.eval o).run P w = .ok (.value v) w) ∧ wpPure P ops R rest (a.put o.dst v) else wpPure P ops R rest (a.put o.dst undef)

theorem wpPure_nil {R : Act → Prop} {a : Act} (h : R a) : wpPure P ops R [] a := h
theorem wpPure_step {R : Act → Prop} {a : Act} {o : Oper} {rest : List Oper}
    (h : ∀ K : Act → Prop, (∀ a, wpPure P ops R rest a → K a) → if Region.wanted o (yielded ops a.tmps) then ∃ v, (∀ w, (execOp a.eval o).run P w = .ok (.value v) w) ∧ K (a.put o.dst v) else K (a.put o.dst undef)) : wpPure P ops R (o :: rest) a :=
  h _ (fun _ h => h)

/-- Operations that hand on a value, and neither call nor leave their slot open. -/
def valB : Op → Bool
  | .move _ | .assign _ | .pick .. | .binOp .. | .unOp .. | .convert .. | .extract .. | .field .. | .fieldAddr .. | .indexAddr .. | .index .. | .slice .. | .load .. => true
  | .call { callee := .builtin .len, .. } => true
  | _ => false

theorem val_spec {o : Oper} (h : valB o.op = true) (ρ : Operand → Value) (w : World) {n : Next} {w' : World} (hr : (execOp ρ o).run P w = .ok n w') : ∃ v, n = .value v := by
  have key : ∀ (s : Sem Value), (Sem.run P (do pure (Next.value (← s))) w) = .ok n w' → ∃ v, n = .value v := by
    intro s hs
    rw [Sem.run_bind] at hs
    cases hx : Sem.run P s w with
    | ok v w2 =>
      rw [hx, Result.andThen_ok, Sem.run_pure] at hs
      injection hs with h1
      exact ⟨v, h1.symm⟩
    | halt x w2 => rw [hx] at hs; cases hs
  unfold execOp at hr
  cases ho : o.op <;> rw [ho] at h hr <;> simp only [valB, Bool.false_eq_true] at h <;> dsimp only at hr
  case move x => rw [Sem.run_pure] at hr; injection hr with h1; exact ⟨_, h1.symm⟩
  case assign x => rw [Sem.run_pure] at hr; injection hr with h1; exact ⟨_, h1.symm⟩
  case pick c a b =>
    rw [Sem.run_bind] at hr
    cases hx : Sem.run P (asBool (ρ c)) w with
    | ok v w2 =>
      rw [hx, Result.andThen_ok, Sem.run_pure] at hr
      injection hr with h1
      exact ⟨_, h1.symm⟩
    | halt x w2 => rw [hx] at hr; cases hr
  case call c =>
    obtain ⟨callee, args, argTypes⟩ := c
    cases callee <;> first | (cases h; done) | skip
    rename_i b
    cases b <;> cases h
    simp only [resolve, invoke, builtin, Sem.run_bind, Sem.run_pure, Result.andThen_ok] at hr
    exact key _ (by rw [Sem.run_bind]; exact hr)
  all_goals exact key _ hr

theorem wpPure_of_quiet {R : Act → Prop} : ∀ (l : List Oper) (a : Act), (l.all fun o => valB o.op) = true → wpQuiet P ops (fun _ => True) R l a → wpPure P ops R l a
  | [], _, _, h => h
  | o :: l, a, hv, h => by
    simp only [List.all_cons, Bool.and_eq_true] at hv
    simp only [wpQuiet] at h
    simp only [wpPure]
    split at h
    · rename_i hw
      rw [if_pos hw]
      obtain ⟨v, hq, hrest⟩ := h
      refine ⟨v, fun w => ?_, wpPure_of_quiet l _ hv.2 hrest⟩
      have h1 := hq w trivial
      unfold Oper.quietAt at h1
      cases hr : (execOp a.eval o).run P w with
      | ok n w' =>
        obtain ⟨u, rfl⟩ := val_spec (P := P) hv.1 a.eval w hr
        rw [hr] at h1
        obtain ⟨h2, h3⟩ := h1
        rw [h2, h3]
      | halt x w' => rw [hr] at h1; exact h1.elim
    · rename_i hw
      rw [if_neg hw]
      exact wpPure_of_quiet l _ hv.2 h

/-- In the text's order each may come up, and is apart from what does not wait for it. -/
def pureB (ops : Array Oper) : Nat → Nat → Array Bool → Bool
  | 0, _, _ => true
  | f + 1, k, listed => (Region.ready .any ops listed).contains k && Region.free .any ops listed k && pureB ops f (k + 1) (listed.setIfInBounds k true)

theorem firstN_set {size k : Nat} (_h : k < size) : (firstN size k).setIfInBounds k true = firstN size (k + 1) := by
  apply Array.ext
  · simp [firstN]
  · intro i h1 h2
    rw [Array.getElem_setIfInBounds (by simpa using h1)]
    by_cases e : k = i
    · subst e; simp [firstN]
    · simp only [e, if_false, firstN]
      simp
      omega

/-- Such operations may be taken first. -/
theorem wpAny_pure (hs : Region.noSelect ops = true) (hQ : ∀ c a d v w, Q (.panic c) (a.put d v) w → Q (.panic c) a w) {w : World} : ∀ (l : List Oper) (k : Nat) (a : Act), (∀ j, j < l.length → l[j]? = ops[k + j]?) → k + l.length ≤ ops.size →
    pureB ops l.length k (firstN ops.size k) = true → wpPure P ops (fun a' => wpAny P .any ops Q (ops.size - (k + l.length)) (firstN ops.size (k + l.length)) a' w) l a → wpAny P .any ops Q (ops.size - k) (firstN ops.size k) a w
  | [], _, _, _, _, _, h => h
  | o :: l, k, a, hl, hk, hB, h => by
    have h0 : ops[k]? = some o := by have := hl 0 (by simp); simpa using this.symm
    simp only [List.length_cons] at hk hB h
    simp only [pureB, Bool.and_eq_true] at hB
    obtain ⟨⟨hr, hf⟩, hB'⟩ := hB
    rw [firstN_set (by omega)] at hB'
    have e1 : k + (l.length + 1) = k + 1 + l.length := by omega
    have again := fun a' => wpAny_pure hs hQ (w := w) l (k + 1) a' (fun j hj => by
      have := hl (j + 1) (by simp; omega)
      simpa [Nat.add_assoc, Nat.add_comm 1 j] using this) (by omega) hB'
    rw [show ops.size - k = (ops.size - (k + 1)) + 1 by omega]
    simp only [wpPure] at h
    split at h
    · rename_i hw
      obtain ⟨v, hv, hrest⟩ := h
      rw [e1] at hrest
      refine wpAny_take (i := k) (v := v) h0 hs hf hr (fun c a w h => hQ c a _ _ w h) (.inl ⟨hw, hv⟩) ?_
      rw [firstN_set (by omega)]
      exact again _ hrest
    · rename_i hw
      rw [e1] at h
      refine wpAny_take (i := k) (v := undef) h0 hs hf hr (fun c a w h => hQ c a _ _ w h) (.inr ⟨by simpa using hw, rfl⟩) ?_
      rw [firstN_set (by omega)]
      exact again _ h

end

/-- All that lay lies as it lay; there may be more. -/
def Grows (W W' : World) : Prop := Below W.heap.size W W'
theorem Grows.refl (W : World) : Grows W W := Below.refl _ _
theorem Grows.trans {A B C : World} (h : Grows A B) (k : Grows B C) : Grows A C := Below.trans h (Below.mono k (Below.size h))
theorem Grows.size {A B : World} (h : Grows A B) : A.heap.size ≤ B.heap.size := Below.size h
theorem Grows.cell {A B : World} (h : Grows A B) {b o : Nat} (hb : b < A.heap.size) : B.cell? ⟨b, o, none⟩ = A.cell? ⟨b, o, none⟩ := Below.cell (p := ⟨b, o, none⟩) h hb
theorem Grows.drewN {A W : World} (h : Grows A W) (n : Nat) : Grows A (W.drewN n) := ⟨h.os, h.tape, h.output, h.size, h.block⟩
theorem Grows.alloc (W : World) (o : Obj) : Grows W (W.alloc o) := (Below.refl _ W).alloc (Nat.le_refl _) o

section
variable {P : Program} {ops : Array Oper} {Q : Exit → Act → World → Prop} {a : Act} {W : World} {i : Nat} {o : Oper} {F : Value → World → Prop}

/-- An operation that yields a value. -/
theorem hop_value (hi : ops[i]? = some o) (hd : o.dst = some (dstOf ops i)) (hw : Region.wanted o (yielded ops a.tmps) = true) {v : Value} {W' : World} (hrun : (execOp a.eval o).run P W = .ok (.value v) W') (hG : Grows W W') (hF : F v W') :
    wpOp P ops Q i (fun a' W' => ∃ v, a' = a.put (some (dstOf ops i)) v ∧ Grows W W' ∧ F v W') a W := by
  unfold wpOp
  simp only [hi, hw, if_true]
  refine .inl ?_
  unfold Oper.wp
  rw [hrun, Oper.upon_value, hd]
  exact ⟨v, rfl, hG, hF⟩

/-- An operation that calls. -/
theorem hop_call (hi : ops[i]? = some o) (hd : o.dst = some (dstOf ops i)) (hw : Region.wanted o (yielded ops a.tmps) = true) {f : FuncId} {args : Array Value} (hrun : (execOp a.eval o).run P W = .ok (.enter f args) W)
    (hc : Calls P f args W fun e W' => ∃ v, e = .returned v ∧ Grows W W' ∧ F v W') :
    wpOp P ops Q i (fun a' W' => ∃ v, a' = a.put (some (dstOf ops i)) v ∧ Grows W W' ∧ F v W') a W := by
  unfold wpOp
  simp only [hi, hw, if_true]
  refine .inl ?_
  unfold Oper.wp
  rw [hrun, Oper.upon_enter]
  refine hc.mono ?_
  rintro e W' ⟨v, rfl, hG, hF⟩
  exact ⟨v, by rw [hd], hG, hF⟩

/-- An operation that its guard passes over. -/
theorem hop_off (hi : ops[i]? = some o) (hd : o.dst = some (dstOf ops i)) (hw : Region.wanted o (yielded ops a.tmps) = false) (hF : F undef W) :
    wpOp P ops Q i (fun a' W' => ∃ v, a' = a.put (some (dstOf ops i)) v ∧ Grows W W' ∧ F v W') a W := by
  unfold wpOp
  simp only [hi, hw, hd]
  exact ⟨undef, rfl, Grows.refl _, hF⟩
end

/-- The same with the slots' numbers as a list. -/
def putL (ds : List Nat) (us : Nat → Value) (s : Nat) : Nat → Act → Act
  | 0, a => a
  | n + 1, a => (putL ds us s n a).put (some (ds.getD n 0)) (us (s + n))

theorem putL_eq {ops : Array Oper} {ds : List Nat} {us : Nat → Value} {a : Act} {s : Nat} : ∀ n, (∀ i, i < n → dstOf ops (s + i) = ds.getD i 0) → putAll ops us s n a = putL ds us s n a
  | 0, _ => rfl
  | n + 1, h => by rw [putAll, putL, putL_eq n (fun i hi => h i (by omega)), h n (by omega)]

/-- From where the first s have come up on: the next n by facts; what is behind them leaves the world as it is. 'ds': the slots of these n; 'fr us': the frame with the values us in them. -/
theorem mid_facts {P : Program} {Q : Exit → Act → World → Prop} {b : Act} {w : World} {l : List Oper} {fr : (Nat → Value) → Act} (s n : Nat) (ds : List Nat) (F : Nat → Value → World → Prop)
    (hB : headB l.toArray s (s + n) b.tmps.size = true) (hds : ((List.range n).all fun i => dstOf l.toArray (s + i) == ds.getD i 0) = true) (hsel : Region.noSelect l.toArray = true)
    (hlex : Region.lexFrom .any l.toArray (l.drop (s + n)).length (s + n) (firstN l.toArray.size (s + n)) = true)
    (hfr : ∀ us, putL ds us s n b = fr us)
    (hF : ∀ i v W W', Grows W W' → F i v W → F i v W')
    (hop : ∀ i, s ≤ i → i < s + n → ∀ (us : Nat → Value) (W : World), Grows w W → (∀ j, s ≤ j → j < s + n → waits l.toArray i j = true → F j (us j) W) →
      wpOp P l.toArray Q i (fun a' W' => ∃ v, a' = (fr us).put (some (dstOf l.toArray i)) v ∧ Grows W W' ∧ F i v W') (fr us) W)
    (htail : ∀ (us : Nat → Value) (W : World), Grows w W → (∀ i, s ≤ i → i < s + n → F i (us i) W) → wpQuiet P l.toArray (fun w' => ∃ n, w' = W.drewN n) (fun a' => ∀ w', (∃ n, w' = W.drewN n) → Q .normal a' w') (l.drop (s + n)) (fr us)) :
    wpAny P .any l.toArray Q (l.toArray.size - s) (firstN l.toArray.size s) b w.drew := by
  have he : ∀ us, putAll l.toArray us s n b = fr us := fun us => by
    rw [← hfr]
    refine putL_eq n fun i hi => ?_
    have := List.all_eq_true.1 hds i (List.mem_range.2 hi)
    exact eq_of_beq this
  have hd : ∀ {W : World}, Grows w.drew W → Grows w W := fun h => ⟨h.os, h.tape, h.output, h.size, h.block⟩
  refine wpAny_facts (w0 := w.drew) (n := n) s Grows (Grows.refl _) (fun h k => h.trans k) F hF hB ?_ (fun us W hG hf => ?_)
  · intro i hsi hi us W hG hf
    rw [he]
    exact hop i hsi hi us W (hd hG) hf
  · have h := htail us W (hd hG) hf
    have e : l.toArray.size - (s + n) = (l.drop (s + n)).length := by simp
    rw [e, he]
    exact wpAny_of_quiet (C := fun w' => ∃ n, w' = W.drewN n) (Q := fun a' => ∀ w', (∃ n, w' = W.drewN n) → Q .normal a' w') (fun _ w' hw' h => h w' hw') _ _ _ _ ⟨0, rfl⟩ (wpAnyQ_lex (md := .any) hsel (l.drop (s + n)) (s + n) _ _ (fun j => by simp [List.getElem?_drop]) hlex h)

/-- The law for a region of code, its operations written out as a list; the first s yield the same in every world; the next n by facts; what is behind these leaves the world as it is. -/
theorem region_facts {P : Program} {Q : Exit → Act → World → Prop} {id : Nat} {a b : Act} {w : World} {l : List Oper} {fr : (Nat → Value) → Act} (s n : Nat) (ds : List Nat) (F : Nat → Value → World → Prop)
    (hm : P.follows .mixedOrders = true) (hB : headB l.toArray s (s + n) b.tmps.size = true) (hds : ((List.range n).all fun i => dstOf l.toArray (s + i) == ds.getD i 0) = true) (hsel : Region.noSelect l.toArray = true)
    (hpure : pureB l.toArray s 0 (firstN l.toArray.size 0) = true) (hlex : Region.lexFrom .any l.toArray (l.drop (s + n)).length (s + n) (firstN l.toArray.size (s + n)) = true)
    (hQ : ∀ c a d v w, Q (.panic c) (a.put d v) w → Q (.panic c) a w)
    (hval : ((l.take s).all fun o => valB o.op) = true) (hpre : wpQuiet P l.toArray (fun _ => True) (fun a' => a' = b) (l.take s) a)
    (hfr : ∀ us, putL ds us s n b = fr us)
    (hF : ∀ i v W W', Grows W W' → F i v W → F i v W')
    (hop : ∀ i, s ≤ i → i < s + n → ∀ (us : Nat → Value) (W : World), Grows w W → (∀ j, s ≤ j → j < s + n → waits l.toArray i j = true → F j (us j) W) →
      wpOp P l.toArray Q i (fun a' W' => ∃ v, a' = (fr us).put (some (dstOf l.toArray i)) v ∧ Grows W W' ∧ F i v W') (fr us) W)
    (htail : ∀ (us : Nat → Value) (W : World), Grows w W → (∀ i, s ≤ i → i < s + n → F i (us i) W) → wpQuiet P l.toArray (fun w' => ∃ n, w' = W.drewN n) (fun a' => ∀ w', (∃ n, w' = W.drewN n) → Q .normal a' w') (l.drop (s + n)) (fr us)) :
    (Code.region id l.toArray true).wp P Q a w := by
  have hle : s + n ≤ l.toArray.size := by
    simp only [headB, Bool.and_eq_true, decide_eq_true_eq] at hB
    exact hB.1.1.1.1.2
  have hsl : s ≤ l.length := by simp at hle; omega
  have htk : (l.take s).length = s := by simp; omega
  refine wp_region_any hm ?_
  have hrep : Array.replicate l.toArray.size false = firstN l.toArray.size 0 := by
    apply Array.ext <;> simp [firstN]
  rw [hrep]
  have hmid := mid_facts (P := P) (Q := Q) (w := w) s n ds F hB hds hsel hlex hfr hF hop htail
  have hmono : ∀ (ls : List Oper) (a : Act), wpPure P l.toArray (fun a' => a' = b) ls a → wpPure P l.toArray (fun a' => wpAny P .any l.toArray Q (l.toArray.size - s) (firstN l.toArray.size s) a' w.drew) ls a := by
    intro ls
    induction ls with
    | nil => intro a h; rw [show a = b from h]; exact hmid
    | cons o ls ih =>
      intro a h
      simp only [wpPure] at h ⊢
      split at h
      · rename_i hw
        obtain ⟨v, hv, hr⟩ := h
        rw [if_pos hw]
        exact ⟨v, hv, ih _ hr⟩
      · rename_i hw
        rw [if_neg hw]
        exact ih _ h
  have := wpAny_pure (P := P) (w := w.drew) hsel hQ (l.take s) 0 a (fun j hj => by rw [htk] at hj; simp [hj]) (by rw [htk]; omega) (by rw [htk]; exact hpure) (by rw [htk, Nat.zero_add]; exact hmono _ _ (wpPure_of_quiet _ _ hval hpre))
  simpa using this

/-- The same without operations ahead. -/
theorem region_facts0 {P : Program} {Q : Exit → Act → World → Prop} {id : Nat} {a : Act} {w : World} {l : List Oper} {fr : (Nat → Value) → Act} (n : Nat) (ds : List Nat) (F : Nat → Value → World → Prop)
    (hm : P.follows .mixedOrders = true) (hB : headB l.toArray 0 (0 + n) a.tmps.size = true) (hds : ((List.range n).all fun i => dstOf l.toArray (0 + i) == ds.getD i 0) = true) (hsel : Region.noSelect l.toArray = true)
    (hlex : Region.lexFrom .any l.toArray (l.drop (0 + n)).length (0 + n) (firstN l.toArray.size (0 + n)) = true)
    (hfr : ∀ us, putL ds us 0 n a = fr us)
    (hF : ∀ i v W W', Grows W W' → F i v W → F i v W')
    (hop : ∀ i, i < n → ∀ (us : Nat → Value) (W : World), Grows w W → (∀ j, j < n → waits l.toArray i j = true → F j (us j) W) →
      wpOp P l.toArray Q i (fun a' W' => ∃ v, a' = (fr us).put (some (dstOf l.toArray i)) v ∧ Grows W W' ∧ F i v W') (fr us) W)
    (htail : ∀ (us : Nat → Value) (W : World), Grows w W → (∀ i, i < n → F i (us i) W) → wpQuiet P l.toArray (fun w' => ∃ n, w' = W.drewN n) (fun a' => ∀ w', (∃ n, w' = W.drewN n) → Q .normal a' w') (l.drop n) (fr us)) :
    (Code.region id l.toArray true).wp P Q a w := by
  refine wp_region_any hm ?_
  have hrep : Array.replicate l.toArray.size false = firstN l.toArray.size 0 := by
    apply Array.ext <;> simp [firstN]
  rw [hrep]
  have := mid_facts (P := P) (Q := Q) (w := w) 0 n ds F hB hds hsel hlex hfr hF
    (fun i _ hi us W hG hf => hop i (by omega) us W hG (fun j hj hw => hf j (by omega) (by omega) hw))
    (fun us W hG hf => by rw [Nat.zero_add]; exact htail us W hG (fun i hi => hf i (by omega) (by omega)))
  simpa using this

end Go.Proofs.Rf
end
section
/- The contract of hist.refusal. -/
namespace Go.Proofs.Ythncmjimfkbofaa
open Go.RowKit Go.Shelf Go.Proofs.Rw Go.Proofs.Lh Go.Proofs.Rn

theorem box3 {W : World} {b : Nat} {x y z : Value} {t : TypeId} (h : W.heap[b]? = some (.cells #[x, y, z] t)) : W.cell? ⟨b, 0, none⟩ = some x ∧ W.cell? ⟨b, 1, none⟩ = some y ∧ W.cell? ⟨b, 2, none⟩ = some z := by simp [World.cell?, h]

end Go.Proofs.Ythncmjimfkbofaa
end
