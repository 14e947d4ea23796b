/-
  A region that draws its order, walked by facts, all of it: of each operation one fact on the values and the world; each is shown out of the facts of those that it waits for; a fact lasts over the operations that may come up behind it. Stores, and operations without a slot, are let in.
-/
import Derived.Test.YtoplbjanemjebaaFacts
namespace Go.Proofs.Rf
open Go Go.RowKit

def dstO (ops : Array Oper) (i : Nat) : Option Nat := (ops[i]?).bind (·.dst)
def putO (ops : Array Oper) (us : Nat → Value) : Nat → Act → Act
  | 0, a => a
  | n + 1, a => (putO ops us n a).put (dstO ops n) (us n)
def upd (us : Nat → Value) (i : Nat) (v : Value) : Nat → Value := fun j => if j = i then v else us j
/-- What a slot held ahead of the region. -/
def initO (ops : Array Oper) (a : Act) (i : Nat) : Value := match dstO ops i with | some d => a.tmps.getD d undef | none => undef

/-- Each operation has a slot of its own, or none; it waits for earlier ones alone. -/
def okB (ops : Array Oper) (size : Nat) : Bool :=
  (List.range ops.size).all fun i =>
    (match dstO ops i with | some d => decide (d < size) && (List.range ops.size).all (fun j => j == i || dstO ops j != some d) | none => true) &&
    ((ops[i]?).map (·.after.all fun e => !Region.binds .any e || decide (e.on < i))).getD false

theorem putO_same {ops : Array Oper} {us vs : Nat → Value} {a : Act} : ∀ n, (∀ j, j < n → us j = vs j ∨ dstO ops j = none) → putO ops us n a = putO ops vs n a
  | 0, _ => rfl
  | n + 1, h => by
    rw [putO, putO, putO_same n (fun j hj => h j (by omega))]
    rcases h n (by omega) with e | e
    · rw [e]
    · rw [e]; rfl

theorem putO_put {ops : Array Oper} {us : Nat → Value} {a : Act} {i : Nat} {v : Value} : ∀ n, i < n → (∀ d, dstO ops i = some d → ∀ j, j < n → j ≠ i → dstO ops j ≠ some d) →
    (putO ops us n a).put (dstO ops i) v = putO ops (upd us i v) n a
  | 0, h, _ => absurd h (by omega)
  | n + 1, h, hd => by
    rw [putO, putO]
    by_cases e : i = n
    · subst e
      rw [putO_same (us := us) (vs := upd us i v) i (fun j hj => .inl (by simp [upd]; omega)), show upd us i v i = v by simp [upd]]
      cases dstO ops i with
      | none => rfl
      | some d => rw [put_put]
    · have hu : upd us i v n = us n := by simp [upd]; omega
      rw [Act.put_comm _ _ _ (fun d h1 h2 => by first | exact hd d h2 n (by omega) (by omega) h1 | exact hd d h1 n (by omega) (by omega) h2), putO_put n (by omega) (fun d hdd j hj => hd d hdd j (by omega)), hu]

theorem putO_start {ops : Array Oper} {a : Act} : ∀ n, (∀ j d, j < n → dstO ops j = some d → d < a.tmps.size) → putO ops (initO ops a) n a = a
  | 0, _ => rfl
  | n + 1, h => by
    rw [putO, putO_start n (fun j d hj => h j d (by omega))]
    unfold initO
    cases hd : dstO ops n with
    | none => rfl
    | some d => exact put_get a d (h n d (by omega) hd)

section
variable {P : Program} {ops : Array Oper} {Q : Exit → Act → World → Prop} {a0 : Act} {w0 : World}

theorem facts_all (G : World → Prop) (F : Nat → (Nat → Value) → World → Prop) (E : Nat → World → World → Prop) (hB : okB ops a0.tmps.size = true)
    (hloc : ∀ i us us' W, (∀ j, (j = i ∨ waits ops i j = true) → us j = us' j) → F i us W → F i us' W)
    (hst : ∀ i j us W W', i ≠ j → waits ops i j = false → i < ops.size → j < ops.size → E j W W' → F i us W → F i us W')
    (hG : ∀ j W W', E j W W' → G W → G W')
    (hop : ∀ i, i < ops.size → ∀ (us : Nat → Value) (W : World), G W → (∀ j, waits ops i j = true → F j us W) → (∀ j, waits ops j i = true → us j = initO ops a0 j) →
      wpOp P ops Q i (fun a' W' => ∃ v, a' = (putO ops us ops.size a0).put (dstO ops i) v ∧ E i W W' ∧ F i (upd us i v) W') (putO ops us ops.size a0) W)
    (hend : ∀ (us : Nat → Value) (W : World), G W → (∀ i, i < ops.size → F i us W) → Q .normal (putO ops us ops.size a0) W) :
    ∀ (m : Nat) (listed : Array Bool) (us : Nat → Value) (W : World), listed.size = ops.size →
      (∀ j oj, ops[j]? = some oj → listed.getD j false = true → ∀ e ∈ oj.after, Region.binds .any e = true → listed.getD e.on false = true) →
      (∀ j, j < ops.size → listed.getD j false = false → us j = initO ops a0 j) → unl (fun i => listed.getD i false) ops.size = m → G W → (∀ i, i < ops.size → listed.getD i false = true → F i us W) →
      wpAny P .any ops Q m listed (putO ops us ops.size a0) W := by
  have hB' : ∀ i, i < ops.size → (∀ d, dstO ops i = some d → d < a0.tmps.size ∧ ∀ j, j < ops.size → j ≠ i → dstO ops j ≠ some d) ∧ ∃ o, ops[i]? = some o ∧ ∀ e ∈ o.after, Region.binds .any e = true → e.on < i := by
    intro i hi
    have h := List.all_eq_true.1 hB i (List.mem_range.2 hi)
    simp only [Bool.and_eq_true] at h
    refine ⟨fun d hd => ?_, ?_⟩
    · rw [hd] at h
      simp only [Bool.and_eq_true, decide_eq_true_eq] at h
      refine ⟨h.1.1, fun j hj hne => ?_⟩
      have := List.all_eq_true.1 h.1.2 j (List.mem_range.2 hj)
      simpa [hne] using this
    · have h2 := h.2
      cases ho : ops[i]? with
      | none => rw [ho] at h2; simp at h2
      | some o =>
        rw [ho] at h2
        simp only [Option.map_some, Option.getD_some, Array.all_eq_true_iff_forall_mem, Bool.or_eq_true, Bool.not_eq_true', decide_eq_true_eq] at h2
        exact ⟨o, rfl, fun e he hb => (h2 e he).resolve_left (by simp [hb])⟩
  have hsz : ∀ {l : Array Bool} {j : Nat}, l.size = ops.size → j < ops.size → l.getD j true = l.getD j false := by
    intro l j hl hj
    simp [Array.getD, hl, hj]
  intro m
  induction m with
  | zero =>
    intro listed us W hl hcl hin hu hg hf
    have hall := unl_zero ops.size hu
    refine ⟨?_, hend us W hg (fun i hi => hf i hi (hall i hi))⟩
    cases hr : Region.ready .any ops listed with
    | nil => rfl
    | cons i r =>
      have hi : i ∈ Region.ready .any ops listed := by rw [hr]; simp
      rw [mem_ready] at hi
      obtain ⟨h1, o, ho, _⟩ := hi
      have hilt : i < ops.size := (Array.getElem?_eq_some_iff.1 ho).1
      rw [hsz hl hilt, hall i hilt] at h1
      cases h1
  | succ m ih =>
    intro listed us W hl hcl hin hu hg hf
    obtain ⟨i0, hi0, hi0f, hi0l⟩ := exists_least (f := fun i => listed.getD i false) ops.size (by omega)
    refine ⟨fun h0 => ?_, fun i hi => ?_⟩
    · obtain ⟨_, o, ho, hon⟩ := hB' i0 hi0
      have : i0 ∈ Region.ready .any ops listed := by
        rw [mem_ready]
        exact ⟨by rw [hsz hl hi0]; exact hi0f, o, ho, fun e he hb => hi0l e.on (hon e he hb)⟩
      rw [h0] at this
      cases this
    · rw [mem_ready] at hi
      obtain ⟨hi1, o, ho, hdep⟩ := hi
      have hilt : i < ops.size := (Array.getElem?_eq_some_iff.1 ho).1
      have hfi : listed.getD i false = false := by rw [← hsz hl hilt]; exact hi1
      have hwl : ∀ j, waits ops i j = true → j < ops.size ∧ listed.getD j false = true := by
        intro j hw
        obtain ⟨o', ho', e, he, hb, hon⟩ := waits_spec hw
        rw [ho] at ho'; cases ho'
        subst hon
        have h1 := (hB' i hilt).2
        obtain ⟨o2, ho2, h2⟩ := h1
        rw [ho] at ho2; cases ho2
        exact ⟨Nat.lt_trans (h2 e he hb) hilt, hdep e he hb⟩
      have hnw : ∀ j, j < ops.size → waits ops j i = true → listed.getD j false = false := by
        intro j hj hw
        obtain ⟨oj, hoj, e, he, hb, hon⟩ := waits_spec hw
        cases hlj : listed.getD j false with
        | false => rfl
        | true =>
          have := hcl j oj hoj hlj e he hb
          rw [hon, hfi] at this
          cases this
      refine wpOp_mono ?_ (hop i hilt us W hg (fun j hw => hf j (hwl j hw).1 (hwl j hw).2) (fun j hw => ?_))
      · rintro a' W' ⟨v, rfl, hE, hFv⟩
        rw [putO_put ops.size hilt (fun d hd j hj hne => ((hB' i hilt).1 d hd).2 j hj hne)]
        refine ih _ _ W' (by simp [hl]) ?_ ?_ ?_ (hG i W W' hE hg) ?_
        · intro j oj hj hjl e he hb
          by_cases hji : i = j
          · subst hji
            rw [ho] at hj; cases hj
            exact getD_set_true (hdep e he hb)
          · rw [getD_set_ne false hji] at hjl
            exact getD_set_true (hcl j oj hj hjl e he hb)
        · intro j hj hjl
          by_cases hji : i = j
          · subst hji
            simp [Array.getD, hl, hilt] at hjl
          · rw [getD_set_ne false hji] at hjl
            rw [show upd us i v j = us j by simp [upd]; omega]
            exact hin j hj hjl
        · have := unl_set (f := fun j => listed.getD j false) (g := fun j => (listed.setIfInBounds i true).getD j false) (i := i) hfi (by simp [Array.getD, hl, hilt]) (fun j hj => getD_set_ne false (Ne.symm hj)) ops.size hilt
          omega
        · intro j hj hjl
          by_cases hji : j = i
          · subst hji; exact hFv
          · rw [getD_set_ne false (Ne.symm hji)] at hjl
            have hwji : waits ops j i = false := by
              cases hw : waits ops j i with
              | false => rfl
              | true => have := hnw j hj hw; rw [hjl] at this; cases this
            refine hloc j us _ W' (fun k hk => ?_) (hst j i us W W' hji hwji hj hilt hE (hf j hj hjl))
            have hki : k ≠ i := by
              rintro rfl
              rcases hk with rfl | hk
              · exact hji rfl
              · rw [hk] at hwji; cases hwji
            simp [upd, hki]
      · have hj : j < ops.size := by
          obtain ⟨oj, hoj, _⟩ := waits_spec hw
          exact (Array.getElem?_eq_some_iff.1 hoj).1
        exact hin j hj (hnw j hj hw)

theorem unl_none {size : Nat} : ∀ k, k ≤ size → unl (fun i => (Array.replicate size false).getD i false) k = k
  | 0, _ => rfl
  | k + 1, h => by
    have e : (Array.replicate size false).getD k false = false := by simp [Array.getD, show k < size by omega]
    rw [unl, unl_none k (by omega), e]; simp
end

/-- The law for a region of code: all its operations by facts. 'fr us': the frame with the values us in the operations' slots. -/
theorem region_all {P : Program} {Q : Exit → Act → World → Prop} {id : Nat} {a : Act} {w : World} {l : List Oper} {fr : (Nat → Value) → Act} (F : Nat → (Nat → Value) → World → Prop) (E : Nat → World → World → Prop) (G : World → Prop)
    (hm : P.follows .mixedOrders = true) (hB : okB l.toArray a.tmps.size = true)
    (hfr : ∀ us, putO l.toArray us l.length a = fr us)
    (hloc : ∀ i us us' W, (∀ j, (j = i ∨ waits l.toArray i j = true) → us j = us' j) → F i us W → F i us' W)
    (hst : ∀ i j us W W', i ≠ j → waits l.toArray i j = false → i < l.length → j < l.length → E j W W' → F i us W → F i us W')
    (hG0 : G w.drew) (hG : ∀ j W W', E j W W' → G W → G W')
    (hop : ∀ i, i < l.length → ∀ (us : Nat → Value) (W : World), G W → (∀ j, waits l.toArray i j = true → F j us W) → (∀ j, waits l.toArray j i = true → us j = initO l.toArray a j) →
      wpOp P l.toArray Q i (fun a' W' => ∃ v, a' = (fr us).put (dstO l.toArray i) v ∧ E i W W' ∧ F i (upd us i v) W') (fr us) W)
    (hend : ∀ (us : Nat → Value) (W : World), G W → (∀ i, i < l.length → F i us W) → Q .normal (fr us) W) :
    (Code.region id l.toArray true).wp P Q a w := by
  refine wp_region_any hm ?_
  have hs : l.toArray.size = l.length := by simp
  have hd : ∀ j d, j < l.length → dstO l.toArray j = some d → d < a.tmps.size := by
    intro j d hj hd
    have h := List.all_eq_true.1 hB j (List.mem_range.2 (by rw [hs]; exact hj))
    simp only [Bool.and_eq_true] at h
    rw [hd] at h
    simp only [Bool.and_eq_true, decide_eq_true_eq] at h
    exact h.1.1
  have := facts_all (P := P) (ops := l.toArray) (Q := Q) (a0 := a) G F E hB hloc (fun i j us W W' h1 h2 h3 h4 => hst i j us W W' h1 h2 (by rw [← hs]; exact h3) (by rw [← hs]; exact h4)) hG
    (fun i hi us W hg hw hq => by rw [hs, hfr]; exact hop i (by rw [← hs]; exact hi) us W hg hw hq)
    (fun us W hg hf => by rw [hs, hfr]; exact hend us W hg (fun i hi => hf i (by rw [hs]; exact hi)))
    l.toArray.size (Array.replicate l.toArray.size false) (initO l.toArray a) w.drew (by simp)
    (fun j oj _ hl => by simp [Array.getD] at hl) (fun _ _ _ => rfl) (unl_none _ (Nat.le_refl _)) hG0 (fun i _ hl => by simp [Array.getD] at hl)
  rw [hs, putO_start l.length hd] at this
  rw [hs]
  exact this

section
variable {P : Program} {ops : Array Oper} {Q : Exit → Act → World → Prop} {a : Act} {W : World} {i : Nat} {o : Oper} {E : World → Prop} {F : Value → World → Prop}

/-- An operation that yields a value. -/
theorem all_value (hi : ops[i]? = some o) (hw : Region.wanted o (yielded ops a.tmps) = true) (v : Value) (W' : World) (hrun : (execOp a.eval o).run P W = .ok (.value v) W') (hE : E W') (hF : F v W') :
    wpOp P ops Q i (fun a' W' => ∃ v, a' = a.put (dstO ops i) v ∧ E W' ∧ F v W') a W := by
  unfold wpOp
  have hd : dstO ops i = o.dst := by simp [dstO, hi]
  simp only [hi, hw, if_true]
  refine .inl ?_
  unfold Oper.wp
  rw [hrun, Oper.upon_value, hd]
  exact ⟨v, rfl, hE, hF⟩

/-- An operation that hands nothing on (a store). -/
theorem all_skip (hi : ops[i]? = some o) (hw : Region.wanted o (yielded ops a.tmps) = true) (W' : World) (hrun : (execOp a.eval o).run P W = .ok .skip W') (hE : E W') (hF : F undef W') :
    wpOp P ops Q i (fun a' W' => ∃ v, a' = a.put (dstO ops i) v ∧ E W' ∧ F v W') a W := by
  unfold wpOp
  have hd : dstO ops i = o.dst := by simp [dstO, hi]
  simp only [hi, hw, if_true]
  refine .inl ?_
  unfold Oper.wp
  rw [hrun]
  unfold Oper.upon
  rw [hd]
  exact ⟨undef, rfl, hE, hF⟩

/-- An operation that calls. -/
theorem all_call (hi : ops[i]? = some o) (hw : Region.wanted o (yielded ops a.tmps) = true) (f : FuncId) (args : Array Value) (hrun : (execOp a.eval o).run P W = .ok (.enter f args) W)
    (hc : Calls P f args W fun e W' => ∃ v, e = .returned v ∧ E W' ∧ F v W') :
    wpOp P ops Q i (fun a' W' => ∃ v, a' = a.put (dstO ops i) v ∧ E W' ∧ F v W') a W := by
  unfold wpOp
  have hd : dstO ops i = o.dst := by simp [dstO, hi]
  simp only [hi, hw, if_true]
  refine .inl ?_
  unfold Oper.wp
  rw [hrun, Oper.upon_enter]
  refine hc.mono ?_
  rintro e W' ⟨v, rfl, hG, hF⟩
  exact ⟨v, by rw [hd], hG, hF⟩

/-- An operation that its guard passes over. -/
theorem all_off (hi : ops[i]? = some o) (hw : Region.wanted o (yielded ops a.tmps) = false) (hE : E W) (hF : F undef W) :
    wpOp P ops Q i (fun a' W' => ∃ v, a' = a.put (dstO ops i) v ∧ E W' ∧ F v W') a W := by
  unfold wpOp
  have hd : dstO ops i = o.dst := by simp [dstO, hi]
  simp only [hi, hw, hd]
  exact ⟨undef, rfl, hE, hF⟩
end

end Go.Proofs.Rf
