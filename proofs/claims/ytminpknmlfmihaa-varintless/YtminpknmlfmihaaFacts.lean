/-
  A region that draws its order, walked by facts: of each of its first n operations one fact on its value and the world, that lasts while the world grows; each operation is shown its fact out of those of the operations that it waits for. Then the rest, that leaves the world as it is, in the order of the text.
-/
import Derived.Still
import Derived.Below
namespace Go.Proofs.Rf
open Go Go.RowKit

/-- The slot that operation i writes. -/
def dstOf (ops : Array Oper) (i : Nat) : Nat := ((ops[i]?).bind (·.dst)).getD 0

/-- Operation i waits for operation j. -/
def waits (ops : Array Oper) (i j : Nat) : Bool :=
  match ops[i]? with
  | some o => o.after.any fun e => Region.binds .any e && e.on == j
  | none => false

/-- The first n operations' values laid into their slots. -/
def putAll (ops : Array Oper) (us : Nat → Value) : Nat → Act → Act
  | 0, a => a
  | n + 1, a => (putAll ops us n a).put (some (dstOf ops n)) (us n)

/-- The first n operations have come up, no other one. -/
def firstN (size n : Nat) : Array Bool := ((List.range size).map fun i => decide (i < n)).toArray

/-- What is asked of the first n operations: each has a slot of its own; each waits for earlier ones alone; each but the last is waited for by a later one of them; each operation behind them waits for the last one of them or for one behind it. -/
def headB (ops : Array Oper) (n size : Nat) : Bool :=
  decide (0 < n) && decide (n ≤ ops.size) &&
  ((List.range n).all fun i => ((ops[i]?).map (·.dst.isSome)).getD false && decide (dstOf ops i < size) &&
    ((List.range n).all fun j => j == i || dstOf ops j != dstOf ops i) &&
    ((ops[i]?).map (·.after.all fun e => decide (e.on < i))).getD false) &&
  ((List.range (n - 1)).all fun i => (List.range n).any fun j => decide (i < j) && waits ops j i) &&
  ((List.range ops.size).all fun t => decide (t < n) || ((List.range t).any fun j => decide (n ≤ j + 1) && waits ops t j))

/-- How many of the first n have not come up. -/
def unl (f : Nat → Bool) : Nat → Nat
  | 0 => 0
  | n + 1 => unl f n + if f n then 0 else 1

theorem unl_congr {f g : Nat → Bool} : ∀ n, (∀ j, j < n → f j = g j) → unl f n = unl g n
  | 0, _ => rfl
  | n + 1, h => by rw [unl, unl, unl_congr n (fun j hj => h j (by omega)), h n (by omega)]

theorem unl_set {f g : Nat → Bool} {i : Nat} (hi : f i = false) (hg : g i = true) (ho : ∀ j, j ≠ i → g j = f j) : ∀ n, i < n → unl g n + 1 = unl f n
  | 0, h => absurd h (by omega)
  | n + 1, h => by
    by_cases e : i = n
    · subst e
      rw [unl, unl, unl_congr i (fun j hj => ho j (by omega)), hi, hg]; simp
    · have := unl_set hi hg ho n (by omega)
      rw [unl, unl, ho n (by omega)]; omega

theorem unl_zero {f : Nat → Bool} : ∀ n, unl f n = 0 → ∀ j, j < n → f j = true
  | 0, _, j, h => absurd h (by omega)
  | n + 1, h0, j, h => by
    rw [unl] at h0
    by_cases e : j = n
    · subst e
      cases hf : f j with
      | true => rfl
      | false => rw [hf] at h0; simp at h0
    · exact unl_zero n (by omega) j (by omega)

theorem exists_least {f : Nat → Bool} : ∀ n, unl f n ≠ 0 → ∃ i, i < n ∧ f i = false ∧ ∀ j, j < i → f j = true
  | 0, h => absurd rfl h
  | n + 1, h => by
    by_cases h' : unl f n = 0
    · have ht := unl_zero n h'
      rw [unl, h'] at h
      cases hf : f n with
      | true => rw [hf] at h; simp at h
      | false => exact ⟨n, by omega, hf, ht⟩
    · obtain ⟨i, hi, r⟩ := exists_least n h'
      exact ⟨i, by omega, r⟩

theorem put_put (a : Act) (d : Nat) (u v : Value) : (a.put (some d) u).put (some d) v = a.put (some d) v := by simp [Act.put]

theorem putAll_same {ops : Array Oper} {us vs : Nat → Value} {a : Act} : ∀ n, (∀ j, j < n → us j = vs j) → putAll ops us n a = putAll ops vs n a
  | 0, _ => rfl
  | n + 1, h => by rw [putAll, putAll, putAll_same n (fun j hj => h j (by omega)), h n (by omega)]

theorem putAll_put {ops : Array Oper} {us : Nat → Value} {a : Act} {i : Nat} {v : Value} : ∀ n, i < n → (∀ j, j < n → j ≠ i → dstOf ops j ≠ dstOf ops i) →
    (putAll ops us n a).put (some (dstOf ops i)) v = putAll ops (fun j => if j = i then v else us j) n a
  | 0, h, _ => absurd h (by omega)
  | n + 1, h, hd => by
    rw [putAll, putAll]
    by_cases e : i = n
    · subst e
      rw [put_put, if_pos rfl, putAll_same (us := us) (vs := fun j => if j = i then v else us j) i (fun j hj => by rw [if_neg (by omega)])]
    · have hne := hd n (by omega) (by omega)
      rw [Act.put_comm _ _ _ (fun d h1 h2 => hne (by injection h1 with h1; injection h2 with h2; omega)), putAll_put n (by omega) (fun j hj => hd j (by omega)), if_neg (by omega)]

theorem put_get (a : Act) (d : Nat) (h : d < a.tmps.size) : a.put (some d) (a.tmps.getD d undef) = a := by
  cases a with
  | mk tmps defers =>
    simp only [Act.put]
    congr 1
    apply Array.ext
    · simp
    · intro i h1 h2
      rw [Array.getElem_setIfInBounds]
      split
      · rename_i e; subst e; simp
      · rfl

theorem putAll_start {ops : Array Oper} {a : Act} : ∀ n, (∀ j, j < n → dstOf ops j < a.tmps.size) → putAll ops (fun j => a.tmps.getD (dstOf ops j) undef) n a = a
  | 0, _ => rfl
  | n + 1, h => by rw [putAll, putAll_start n (fun j hj => h j (by omega)), put_get a _ (h n (by omega))]

theorem firstN_getD {size n j : Nat} (d : Bool) (h : j < size) : (firstN size n).getD j d = decide (j < n) := by simp [firstN, Array.getD, h]

section
variable {P : Program} {ops : Array Oper} {Q : Exit → Act → World → Prop} {n : Nat} {a0 : Act} {w0 : World}

theorem waits_spec {i j : Nat} (h : waits ops i j = true) : ∃ o, ops[i]? = some o ∧ ∃ e ∈ o.after, Region.binds .any e = true ∧ e.on = j := by
  unfold waits at h
  split at h
  · rename_i o ho
    obtain ⟨e, he, hb⟩ := Array.any_eq_true'.1 h
    simp only [Bool.and_eq_true, beq_iff_eq] at hb
    exact ⟨o, ho, e, he, hb.1, hb.2⟩
  · cases h

theorem facts_go (G : World → World → Prop) (hGt : ∀ {A B C : World}, G A B → G B C → G A C)
    (F : Nat → Value → World → Prop) (hF : ∀ i v W W', G W W' → F i v W → F i v W') (hB : headB ops n a0.tmps.size = true)
    (hop : ∀ i, i < n → ∀ (us : Nat → Value) (W : World), G w0 W → (∀ j, j < n → waits ops i j = true → F j (us j) W) →
      wpOp P ops Q i (fun a' W' => ∃ v, a' = (putAll ops us n a0).put (some (dstOf ops i)) v ∧ G W W' ∧ F i v W') (putAll ops us n a0) W)
    (htail : ∀ (us : Nat → Value) (W : World), G w0 W → (∀ i, i < n → F i (us i) W) → wpAny P .any ops Q (ops.size - n) (firstN ops.size n) (putAll ops us n a0) W) :
    ∀ (m : Nat) (listed : Array Bool) (us : Nat → Value) (W : World), listed.size = ops.size →
      (∀ j oj, ops[j]? = some oj → listed.getD j false = true → ∀ e ∈ oj.after, Region.binds .any e = true → listed.getD e.on false = true) →
      (∀ t, n ≤ t → t < ops.size → listed.getD t true = false) → unl (fun i => listed.getD i false) n = m → G w0 W → (∀ i, i < n → listed.getD i false = true → F i (us i) W) →
      wpAny P .any ops Q (m + (ops.size - n)) listed (putAll ops us n a0) W := by
  simp only [headB, Bool.and_eq_true, decide_eq_true_eq] at hB
  obtain ⟨⟨⟨⟨hn0, hn⟩, hB1⟩, hB2⟩, hB3⟩ := hB
  rw [List.all_eq_true] at hB1 hB2 hB3
  have hD : ∀ i, i < n → ∀ j, j < n → j ≠ i → dstOf ops j ≠ dstOf ops i := by
    intro i hi j hj hne
    have h1 := hB1 i (List.mem_range.2 hi)
    simp only [Bool.and_eq_true] at h1
    have h2 := List.all_eq_true.1 h1.1.2 j (List.mem_range.2 hj)
    simpa [hne] using h2
  have hE : ∀ i, i < n → ∃ o, ops[i]? = some o ∧ ∀ e ∈ o.after, e.on < i := by
    intro i hi
    have h1 := hB1 i (List.mem_range.2 hi)
    simp only [Bool.and_eq_true] at h1
    have h2 := h1.2
    cases ho : ops[i]? with
    | none => rw [ho] at h2; simp at h2
    | some o =>
      rw [ho] at h2
      simp only [Option.map_some, Option.getD_some, Array.all_eq_true_iff_forall_mem, decide_eq_true_eq] at h2
      exact ⟨o, rfl, h2⟩
  have hsz : ∀ {l : Array Bool} {j : Nat}, l.size = ops.size → j < ops.size → l.getD j true = l.getD j false := by
    intro l j hl hj
    simp [Array.getD, hl, hj]
  intro m
  induction m with
  | zero =>
    intro listed us W hl hcl ht hu hG hf
    have hall := unl_zero n hu
    have e : listed = firstN ops.size n := by
      apply Array.ext
      · simp [firstN, hl]
      · intro i h1 h2
        have h3 : i < ops.size := by omega
        by_cases hi : i < n
        · have := hall i hi
          simp only [Array.getD, h1, dif_pos] at this
          simp [firstN, hi]
          simpa using this
        · have := ht i (by omega) h3
          simp only [Array.getD, h1, dif_pos] at this
          simp [firstN, hi]
          simpa using this
    rw [Nat.zero_add, e]
    exact htail us W hG (fun i hi => hf i hi (hall i hi))
  | succ m ih =>
    intro listed us W hl hcl ht hu hG hf
    rw [show m + 1 + (ops.size - n) = (m + (ops.size - n)) + 1 by omega]
    obtain ⟨i0, hi0, hi0f, hi0l⟩ := exists_least (f := fun i => listed.getD i false) n (by omega)
    refine ⟨fun h0 => ?_, fun i hi => ?_⟩
    · -- something may come up
      obtain ⟨o, ho, hon⟩ := hE i0 hi0
      have : i0 ∈ Region.ready .any ops listed := by
        rw [mem_ready]
        exact ⟨by rw [hsz hl (by omega)]; exact hi0f, o, ho, fun e he _ => hi0l e.on (hon e he)⟩
      rw [h0] at this
      cases this
    · rw [mem_ready] at hi
      obtain ⟨hi1, o, ho, hdep⟩ := hi
      have hilt : i < ops.size := (Array.getElem?_eq_some_iff.1 ho).1
      by_cases hin : i < n
      · refine wpOp_mono ?_ (hop i hin us W hG (fun j hj hw => ?_))
        · rintro a' W' ⟨v, rfl, hG', hFv⟩
          rw [putAll_put n hin (hD i hin)]
          refine ih _ _ W' (by simp [hl]) ?_ ?_ ?_ (hGt hG hG') ?_
          · intro j oj hj hjl e he hb
            by_cases hji : i = j
            · subst hji
              rw [ho] at hj; cases hj
              exact getD_set_true (hdep e he hb)
            · rw [getD_set_ne false hji] at hjl
              exact getD_set_true (hcl j oj hj hjl e he hb)
          · intro t h1 h2
            rw [getD_set_ne true (by omega)]
            exact ht t h1 h2
          · have hfi : listed.getD i false = false := by rw [← hsz hl hilt]; exact hi1
            have := unl_set (f := fun j => listed.getD j false) (g := fun j => (listed.setIfInBounds i true).getD j false) (i := i) hfi (by simp [Array.getD, hl, hilt]) (fun j hj => getD_set_ne false (Ne.symm hj)) n hin
            omega
          · intro j hj hjl
            by_cases hji : j = i
            · subst hji; rw [if_pos rfl]; exact hFv
            · rw [if_neg hji]
              rw [getD_set_ne false (Ne.symm hji)] at hjl
              exact hF _ _ _ _ hG' (hf j hj hjl)
        · obtain ⟨o', ho', e, he, hb, hon⟩ := waits_spec hw
          rw [ho] at ho'; cases ho'
          subst hon
          exact hf e.on hj (hdep e he hb)
      · -- an operation of the rest may not come up yet
        exfalso
        have h3 := hB3 i (List.mem_range.2 hilt)
        simp only [Bool.or_eq_true, decide_eq_true_eq, List.any_eq_true, List.mem_range, Bool.and_eq_true] at h3
        rcases h3 with h3 | ⟨j, hj, hnj, hw⟩
        · exact hin h3
        · obtain ⟨o', ho', e, he, hb, hon⟩ := waits_spec hw
          rw [ho] at ho'; cases ho'
          subst hon
          have hjl := hdep e he hb
          by_cases hjn : n ≤ e.on
          · have := ht e.on hjn (by omega)
            rw [hsz hl (by omega), hjl] at this
            cases this
          · have e1 : e.on = n - 1 := by omega
            rw [e1] at hjl
            -- the last one has come up: so have all
            have hall : ∀ d, d < n → listed.getD (n - 1 - d) false = true := by
              intro d
              induction d using Nat.strongRecOn with
              | _ d ihd =>
                intro hd
                by_cases hd0 : d = 0
                · subst hd0; exact hjl
                · have h2 := hB2 (n - 1 - d) (List.mem_range.2 (by omega))
                  simp only [List.any_eq_true, List.mem_range, Bool.and_eq_true, decide_eq_true_eq] at h2
                  obtain ⟨k, hk, hlt, hwk⟩ := h2
                  have hkl := ihd (n - 1 - k) (by omega) (by omega)
                  rw [show n - 1 - (n - 1 - k) = k by omega] at hkl
                  obtain ⟨ok, hok, e2, he2, hb2, hon2⟩ := waits_spec hwk
                  rw [← hon2]
                  exact hcl k ok hok hkl e2 he2 hb2
            have := hall (n - 1 - i0) (by omega)
            rw [show n - 1 - (n - 1 - i0) = i0 by omega, hi0f] at this
            cases this

/-- The law. -/
theorem wpAny_facts (G : World → World → Prop) (hGr : G w0 w0) (hGt : ∀ {A B C : World}, G A B → G B C → G A C)
    (F : Nat → Value → World → Prop) (hF : ∀ i v W W', G W W' → F i v W → F i v W') (hB : headB ops n a0.tmps.size = true)
    (hop : ∀ i, i < n → ∀ (us : Nat → Value) (W : World), G w0 W → (∀ j, j < n → waits ops i j = true → F j (us j) W) →
      wpOp P ops Q i (fun a' W' => ∃ v, a' = (putAll ops us n a0).put (some (dstOf ops i)) v ∧ G W W' ∧ F i v W') (putAll ops us n a0) W)
    (htail : ∀ (us : Nat → Value) (W : World), G w0 W → (∀ i, i < n → F i (us i) W) → wpAny P .any ops Q (ops.size - n) (firstN ops.size n) (putAll ops us n a0) W) :
    wpAny P .any ops Q ops.size (Array.replicate ops.size false) a0 w0 := by
  have hB' := hB
  simp only [headB, Bool.and_eq_true, decide_eq_true_eq] at hB'
  obtain ⟨⟨⟨⟨hn0, hn⟩, hB1⟩, _⟩, _⟩ := hB'
  have hrep : ∀ j, (Array.replicate ops.size false).getD j false = false := by intro j; by_cases h : j < ops.size <;> simp [Array.getD, h]
  have hu : ∀ k, k ≤ ops.size → unl (fun i => (Array.replicate ops.size false).getD i false) k = k := by
    intro k
    induction k with
    | zero => intro _; rfl
    | succ k ih => intro h; rw [unl, ih (by omega), hrep]; simp
  have := facts_go G hGt F hF hB hop htail n (Array.replicate ops.size false) (fun j => a0.tmps.getD (dstOf ops j) undef) w0 (by simp)
    (fun j _ _ h => by rw [hrep] at h; cases h) (fun t _ ht => by simp [Array.getD, ht]) (hu n hn) hGr (fun i _ h => by rw [hrep] at h; cases h)
  rw [putAll_start n (fun j hj => by
    have h1 := List.all_eq_true.1 hB1 j (List.mem_range.2 hj)
    simp only [Bool.and_eq_true, decide_eq_true_eq] at h1
    exact h1.1.1.2), show n + (ops.size - n) = ops.size by omega] at this
  exact this

end

/-- All that lay lies as it lay; there may be more. -/
def Grows (W W' : World) : Prop := Below W.heap.size W W'
theorem Grows.refl (W : World) : Grows W W := Below.refl _ _
theorem Grows.trans {A B C : World} (h : Grows A B) (k : Grows B C) : Grows A C := Below.trans h (Below.mono k (Below.size h))
theorem Grows.size {A B : World} (h : Grows A B) : A.heap.size ≤ B.heap.size := Below.size h
theorem Grows.cell {A B : World} (h : Grows A B) {b o : Nat} (hb : b < A.heap.size) : B.cell? ⟨b, o, none⟩ = A.cell? ⟨b, o, none⟩ := Below.cell (p := ⟨b, o, none⟩) h hb
theorem Grows.alloc (W : World) (o : Obj) : Grows W (W.alloc o) := (Below.refl _ W).alloc (Nat.le_refl _) o

section
variable {P : Program} {ops : Array Oper} {Q : Exit → Act → World → Prop} {a : Act} {W : World} {i : Nat} {o : Oper} {F : Value → World → Prop}

/-- An operation that yields a value. -/
theorem hop_value (hi : ops[i]? = some o) (hd : o.dst = some (dstOf ops i)) (hw : Region.wanted o (yielded ops a.tmps) = true) {v : Value} {W' : World} (hrun : (execOp a.eval o).run P W = .ok (.value v) W') (hG : Grows W W') (hF : F v W') :
    wpOp P ops Q i (fun a' W' => ∃ v, a' = a.put (some (dstOf ops i)) v ∧ Grows W W' ∧ F v W') a W := by
  unfold wpOp
  simp only [hi, hw, if_true]
  refine .inl ?_
  unfold Oper.wp
  rw [hrun, Oper.upon_value, hd]
  exact ⟨v, rfl, hG, hF⟩

/-- An operation that calls. -/
theorem hop_call (hi : ops[i]? = some o) (hd : o.dst = some (dstOf ops i)) (hw : Region.wanted o (yielded ops a.tmps) = true) {f : FuncId} {args : Array Value} (hrun : (execOp a.eval o).run P W = .ok (.enter f args) W)
    (hc : Calls P f args W fun e W' => ∃ v, e = .returned v ∧ Grows W W' ∧ F v W') :
    wpOp P ops Q i (fun a' W' => ∃ v, a' = a.put (some (dstOf ops i)) v ∧ Grows W W' ∧ F v W') a W := by
  unfold wpOp
  simp only [hi, hw, if_true]
  refine .inl ?_
  unfold Oper.wp
  rw [hrun, Oper.upon_enter]
  refine hc.mono ?_
  rintro e W' ⟨v, rfl, hG, hF⟩
  exact ⟨v, by rw [hd], hG, hF⟩

/-- An operation that its guard passes over. -/
theorem hop_off (hi : ops[i]? = some o) (hd : o.dst = some (dstOf ops i)) (hw : Region.wanted o (yielded ops a.tmps) = false) (hF : F undef W) :
    wpOp P ops Q i (fun a' W' => ∃ v, a' = a.put (some (dstOf ops i)) v ∧ Grows W W' ∧ F v W') a W := by
  unfold wpOp
  simp only [hi, hw, hd]
  exact ⟨undef, rfl, Grows.refl _, hF⟩
end

/-- The same with the slots' numbers as a list. -/
def putL (ds : List Nat) (us : Nat → Value) : Nat → Act → Act
  | 0, a => a
  | n + 1, a => (putL ds us n a).put (some (ds.getD n 0)) (us n)

theorem putL_eq {ops : Array Oper} {ds : List Nat} {us : Nat → Value} {a : Act} : ∀ n, (∀ i, i < n → dstOf ops i = ds.getD i 0) → putAll ops us n a = putL ds us n a
  | 0, _ => rfl
  | n + 1, h => by rw [putAll, putL, putL_eq n (fun i hi => h i (by omega)), h n (by omega)]

/-- The law for a region of code, its operations written out as a list; what is behind the first n leaves the world as it is. 'ds': the slots of the first n; 'fr us': the frame with the values us in them. -/
theorem region_facts {P : Program} {Q : Exit → Act → World → Prop} {id : Nat} {a : Act} {w : World} {l : List Oper} {fr : (Nat → Value) → Act} (n : Nat) (ds : List Nat) (F : Nat → Value → World → Prop)
    (hm : P.follows .mixedOrders = true) (hB : headB l.toArray n a.tmps.size = true) (hds : ((List.range n).all fun i => dstOf l.toArray i == ds.getD i 0) = true) (hsel : Region.noSelect l.toArray = true)
    (hlex : Region.lexFrom .any l.toArray (l.drop n).length n (firstN l.toArray.size n) = true)
    (hfr : ∀ us, putL ds us n a = fr us)
    (hF : ∀ i v W W', Grows W W' → F i v W → F i v W')
    (hop : ∀ i, i < n → ∀ (us : Nat → Value) (W : World), Grows w W → (∀ j, j < n → waits l.toArray i j = true → F j (us j) W) →
      wpOp P l.toArray Q i (fun a' W' => ∃ v, a' = (fr us).put (some (dstOf l.toArray i)) v ∧ Grows W W' ∧ F i v W') (fr us) W)
    (htail : ∀ (us : Nat → Value) (W : World), Grows w W → (∀ i, i < n → F i (us i) W) → wpStill P l.toArray W (fun a' => Q .normal a' W) (l.drop n) (fr us)) :
    (Code.region id l.toArray true).wp P Q a w := by
  have he : ∀ us, putAll l.toArray us n a = fr us := fun us => by
    rw [← hfr]
    refine putL_eq n fun i hi => ?_
    have := List.all_eq_true.1 hds i (List.mem_range.2 hi)
    exact eq_of_beq this
  have hd : ∀ {W : World}, Grows w.drew W → Grows w W := fun h => ⟨h.os, h.tape, h.output, h.size, h.block⟩
  refine wp_region_any hm ?_
  refine wpAny_facts (w0 := w.drew) (n := n) Grows (Grows.refl _) (fun h k => h.trans k) F hF hB ?_ (fun us W hG hf => ?_)
  · intro i hi us W hG hf
    rw [he]
    exact hop i hi us W (hd hG) hf
  · have h := htail us W (hd hG) hf
    have e : l.toArray.size - n = (l.drop n).length := by simp
    rw [e, he]
    exact wpAny_of_still (Q := fun a' => Q .normal a' W) (fun _ h => h) _ _ _ (wpAnyS_lex (md := .any) hsel (l.drop n) n _ _ (fun j => by simp [List.getElem?_drop]) hlex h)

end Go.Proofs.Rf
