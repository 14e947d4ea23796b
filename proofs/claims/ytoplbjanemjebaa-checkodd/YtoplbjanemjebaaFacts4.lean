/-
  A region that draws its order, walked by facts (Facts.lean), where some operations behind the first n yield the same in every world, and may come up whenever they like (the address of a field that is stored at last): they are taken first. Then the first n by facts, then the rest, whose order is forced, as a list.
-/
import Derived.StillTail
import Derived.Test.YtoplbjanemjebaaFacts
namespace Go.Proofs.Rf
open Go Go.RowKit

/-- The first n operations, and those of X, have come up. -/
def maskN (size n : Nat) (X : List Nat) : Array Bool := ((List.range size).map fun i => decide (i < n) || X.contains i).toArray
theorem maskN_getD {size n j : Nat} {X : List Nat} (d : Bool) (h : j < size) : (maskN size n X).getD j d = (decide (j < n) || X.contains j) := by simp [maskN, Array.getD, h]

/-- What is asked: each of the first n has a slot of its own, and waits for earlier ones alone; each is waited for by a later one of them or by t0; what is behind them is of X, or t0, or waits for one behind them that isn't of X. -/
def headM (ops : Array Oper) (n t0 : Nat) (X : List Nat) (size : Nat) : Bool :=
  decide (n ≤ ops.size) && (X.all fun x => decide (n ≤ x)) && decide (n ≤ t0) &&
  ((List.range n).all fun i => ((ops[i]?).map (·.dst.isSome)).getD false && decide (dstOf ops i < size) && ((List.range n).all fun j => j == i || dstOf ops j != dstOf ops i)) &&
  ((List.range n).all fun i => ((ops[i]?).map (·.after.all fun e => !Region.binds .any e || decide (e.on < i))).getD false) &&
  ((List.range n).all fun i => (List.range ops.size).any fun k => decide (i < k) && (decide (k < n) || k == t0) && waits ops k i) &&
  ((List.range ops.size).all fun t => decide (t < n) || X.contains t || t == t0 || ((List.range ops.size).any fun j => decide (n ≤ j) && !X.contains j && waits ops t j))

section
variable {P : Program} {ops : Array Oper} {Q : Exit → Act → World → Prop} {n t0 K : Nat} {X : List Nat} {a0 : Act} {w0 : World}

theorem mask_go (G : World → World → Prop) (hGt : ∀ {A B C : World}, G A B → G B C → G A C)
    (F : Nat → Value → World → Prop) (hF : ∀ i v W W', G W W' → F i v W → F i v W') (hB : headM ops n t0 X a0.tmps.size = true)
    (hop : ∀ i, i < n → ∀ (us : Nat → Value) (W : World), G w0 W → (∀ j, j < n → waits ops i j = true → F j (us j) W) →
      wpOp P ops Q i (fun a' W' => ∃ v, a' = (putAll ops us 0 n a0).put (some (dstOf ops i)) v ∧ G W W' ∧ F i v W') (putAll ops us 0 n a0) W)
    (htail : ∀ (us : Nat → Value) (W : World), G w0 W → (∀ i, i < n → F i (us i) W) → wpAny P .any ops Q K (maskN ops.size n X) (putAll ops us 0 n a0) W) :
    ∀ (m : Nat) (listed : Array Bool) (us : Nat → Value) (W : World), listed.size = ops.size →
      (∀ j oj, j < n → ops[j]? = some oj → listed.getD j false = true → ∀ e ∈ oj.after, Region.binds .any e = true → listed.getD e.on false = true) →
      (∀ t, n ≤ t → t < ops.size → listed.getD t true = X.contains t) → unl (fun i => listed.getD i false) n = m → G w0 W → (∀ i, i < n → listed.getD i false = true → F i (us i) W) →
      wpAny P .any ops Q (m + K) listed (putAll ops us 0 n a0) W := by
  simp only [headM, Bool.and_eq_true, decide_eq_true_eq] at hB
  obtain ⟨⟨⟨⟨⟨⟨hn, hX⟩, ht0⟩, hB1⟩, hB0⟩, hB2⟩, hB3⟩ := hB
  rw [List.all_eq_true] at hB0 hB1 hB2 hB3 hX
  have hD : ∀ i, i < n → ∀ j, j < n → j ≠ i → dstOf ops j ≠ dstOf ops i := by
    intro i hi j hj hne
    have h1 := hB1 i (List.mem_range.2 hi)
    simp only [Bool.and_eq_true] at h1
    have h2 := List.all_eq_true.1 h1.2 j (List.mem_range.2 hj)
    simpa [hne] using h2
  have hE : ∀ i, i < n → ∃ o, ops[i]? = some o ∧ ∀ e ∈ o.after, Region.binds .any e = true → e.on < i := by
    intro i hi
    have h2 := hB0 i (List.mem_range.2 hi)
    cases ho : ops[i]? with
    | none => rw [ho] at h2; simp at h2
    | some o =>
      rw [ho] at h2
      simp only [Option.map_some, Option.getD_some, Array.all_eq_true_iff_forall_mem, Bool.or_eq_true, Bool.not_eq_true', decide_eq_true_eq] at h2
      exact ⟨o, rfl, fun e he hb => (h2 e he).resolve_left (by simp [hb])⟩
  have hsz : ∀ {l : Array Bool} {j : Nat}, l.size = ops.size → j < ops.size → l.getD j true = l.getD j false := by
    intro l j hl hj
    simp [Array.getD, hl, hj]
  intro m
  induction m with
  | zero =>
    intro listed us W hl hcl ht hu hG hf
    have hall := unl_zero n hu
    have e : listed = maskN ops.size n X := by
      apply Array.ext
      · simp [maskN, hl]
      · intro i h1 h2
        have h3 : i < ops.size := by omega
        by_cases hi : i < n
        · have := hall i hi
          simp only [Array.getD, h1, dif_pos] at this
          simp [maskN, hi]
          simpa using this
        · have := ht i (by omega) h3
          simp only [Array.getD, h1, dif_pos] at this
          simp [maskN, hi]
          simpa using this
    rw [Nat.zero_add, e]
    exact htail us W hG (fun i hi => hf i hi (hall i hi))
  | succ m ih =>
    intro listed us W hl hcl ht hu hG hf
    rw [show m + 1 + K = (m + K) + 1 by omega]
    obtain ⟨i0, hi0, hi0f, hi0l⟩ := exists_least (f := fun i => listed.getD i false) n (by omega)
    refine ⟨fun h0 => ?_, fun i hi => ?_⟩
    · obtain ⟨o, ho, hon⟩ := hE i0 hi0
      have : i0 ∈ Region.ready .any ops listed := by
        rw [mem_ready]
        exact ⟨by rw [hsz hl (by omega)]; exact hi0f, o, ho, fun e he hb => hi0l e.on (hon e he hb)⟩
      rw [h0] at this
      cases this
    · rw [mem_ready] at hi
      obtain ⟨hi1, o, ho, hdep⟩ := hi
      have hilt : i < ops.size := (Array.getElem?_eq_some_iff.1 ho).1
      have hfi : listed.getD i false = false := by rw [← hsz hl hilt]; exact hi1
      have hdw : ∀ j, waits ops i j = true → listed.getD j false = true := by
        intro j hw
        obtain ⟨o', ho', e, he, hb, hon⟩ := waits_spec hw
        rw [ho] at ho'; cases ho'
        subst hon
        exact hdep e he hb
      by_cases hin : i < n
      · refine wpOp_mono ?_ (hop i hin us W hG (fun j hj hw => hf j hj (hdw j hw)))
        rintro a' W' ⟨v, rfl, hG', hFv⟩
        rw [putAll_put (Nat.zero_le i) n (by omega) (fun j _ h2 h3 => hD i hin j (by omega) h3)]
        refine ih _ _ W' (by simp [hl]) ?_ ?_ ?_ (hGt hG hG') ?_
        · intro j oj hjn hj hjl e he hb
          by_cases hji : i = j
          · subst hji
            rw [ho] at hj; cases hj
            exact getD_set_true (hdep e he hb)
          · rw [getD_set_ne false hji] at hjl
            exact getD_set_true (hcl j oj hjn hj hjl e he hb)
        · intro t h1 h2
          rw [getD_set_ne true (by omega)]
          exact ht t h1 h2
        · have := unl_set (f := fun j => listed.getD j false) (g := fun j => (listed.setIfInBounds i true).getD j false) (i := i) hfi (by simp [Array.getD, hl, hilt]) (fun j hj => getD_set_ne false (Ne.symm hj)) n hin
          omega
        · intro j hj hjl
          by_cases hji : j = i
          · subst hji; rw [if_pos rfl]; exact hFv
          · rw [if_neg hji]
            rw [getD_set_ne false (Ne.symm hji)] at hjl
            exact hF _ _ _ _ hG' (hf j hj hjl)
      · exfalso
        have hti := ht i (by omega) hilt
        rw [hi1] at hti
        have h3 := hB3 i (List.mem_range.2 hilt)
        simp only [Bool.or_eq_true, decide_eq_true_eq, List.any_eq_true, List.mem_range, Bool.and_eq_true, beq_iff_eq, Bool.not_eq_true'] at h3
        rcases h3 with ((h3 | h3) | h3) | ⟨j, hj, ⟨hnj, hXj⟩, hw⟩
        · exact hin h3
        · rw [h3] at hti; cases hti
        · -- t0 may come up: so all have come up
          subst h3
          have hall : ∀ d, d < n → listed.getD (n - 1 - d) false = true := by
            intro d
            induction d using Nat.strongRecOn with
            | _ d ihd =>
              intro hd
              have h2 := hB2 (n - 1 - d) (List.mem_range.2 (by omega))
              simp only [List.any_eq_true, List.mem_range, Bool.and_eq_true, Bool.or_eq_true, decide_eq_true_eq, beq_iff_eq] at h2
              obtain ⟨k, hk, ⟨hlt, hkn⟩, hwk⟩ := h2
              by_cases hki : k = i
              · subst hki
                exact hdw _ hwk
              · have hkn' : k < n := by rcases hkn with h | h; exact h; exact absurd h hki
                have hkl := ihd (n - 1 - k) (by omega) (by omega)
                rw [show n - 1 - (n - 1 - k) = k by omega] at hkl
                obtain ⟨ok, hok, e2, he2, hb2, hon2⟩ := waits_spec hwk
                rw [← hon2]
                exact hcl k ok hkn' hok hkl e2 he2 hb2
          have := hall (n - 1 - i0) (by omega)
          rw [show n - 1 - (n - 1 - i0) = i0 by omega, hi0f] at this
          cases this
        · have h4 := ht j hnj hj
          rw [hsz hl hj, hdw j hw, hXj] at h4
          cases h4

/-- The tail's operations, by their numbers: each is the only one that may come up. -/
def seqI (ops : Array Oper) : List Nat → Array Bool → Bool
  | [], listed => (Region.ready .any ops listed).isEmpty
  | t :: ts, listed => decide (Region.ready .any ops listed = [t]) && seqI ops ts (listed.setIfInBounds t true)
theorem wpAny_of_list : ∀ (ts : List Nat) (l : List Oper) (listed : Array Bool) (a : Act) (w : World), (ts.map fun t => ops[t]?) = l.map some → seqI ops ts listed = true → wpList P ops Q l a w → wpAny P .any ops Q ts.length listed a w
  | [], [], _, _, _, _, hB, h => ⟨by simpa [seqI] using hB, h⟩
  | [], _ :: _, _, _, _, hl, _, _ => by simp at hl
  | _ :: _, [], _, _, _, hl, _, _ => by simp at hl
  | t :: ts, o :: l, listed, a, w, hl, hB, h => by
    simp only [List.map_cons, List.cons.injEq] at hl
    simp only [seqI, Bool.and_eq_true, decide_eq_true_eq] at hB
    refine ⟨fun h1 => (by rw [hB.1] at h1; cases h1), fun i hi => ?_⟩
    rw [hB.1] at hi
    have hit : i = t := by simpa using hi
    subst hit
    have hw : wpOp P ops Q i (wpList P ops Q l) a w := by unfold wpOp; simp only [hl.1]; exact h
    exact wpOp_mono (fun a' w' h' => wpAny_of_list ts l _ a' w' hl.2 hB.2 h') hw
end

/-- The law: the operation x yields vx in every world; the first n by facts; the rest, ts, as a list. -/
theorem region_mask {P : Program} {Q : Exit → Act → World → Prop} {id : Nat} {a : Act} {w : World} {l lt : List Oper} {ox : Oper} {fr : (Nat → Value) → Act} (n x t0 : Nat) (vx : Value) (ts ds : List Nat) (F : Nat → Value → World → Prop)
    (hm : P.follows .mixedOrders = true) (hB : headM l.toArray n t0 [x] (a.put ox.dst vx).tmps.size = true) (hds : ((List.range n).all fun i => dstOf l.toArray (0 + i) == ds.getD i 0) = true)
    (hsel : Region.noSelect l.toArray = true) (hox : l.toArray[x]? = some ox) (hfree : Region.free .any l.toArray (Array.replicate l.toArray.size false) x = true) (hready : (Region.ready .any l.toArray (Array.replicate l.toArray.size false)).contains x = true)
    (hnx : (decide (n ≤ x) && decide (x < l.toArray.size)) = true) (hts : decide (l.toArray.size = n + ts.length + 1) = true) (hlt : (ts.map fun t => l.toArray[t]?) = lt.map some) (hseq : seqI l.toArray ts (maskN l.toArray.size n [x]) = true)
    (hQ : ∀ c a d v w, Q (.panic c) (a.put d v) w → Q (.panic c) a w)
    (hwx : Region.wanted ox (yielded l.toArray a.tmps) = true) (hyx : ∀ w, (execOp a.eval ox).run P w = .ok (.value vx) w)
    (hfr : ∀ us, putL ds us 0 n (a.put ox.dst vx) = fr us)
    (hF : ∀ i v W W', Grows W W' → F i v W → F i v W')
    (hop : ∀ i, i < n → ∀ (us : Nat → Value) (W : World), Grows w W → (∀ j, j < n → waits l.toArray i j = true → F j (us j) W) →
      wpOp P l.toArray Q i (fun a' W' => ∃ v, a' = (fr us).put (some (dstOf l.toArray i)) v ∧ Grows W W' ∧ F i v W') (fr us) W)
    (htail : ∀ (us : Nat → Value) (W : World), Grows w W → (∀ i, i < n → F i (us i) W) → wpList P l.toArray Q lt (fr us) W) :
    (Code.region id l.toArray true).wp P Q a w := by
  simp only [Bool.and_eq_true, decide_eq_true_eq] at hnx hts
  refine wp_region_any hm ?_
  have he : ∀ us, putAll l.toArray us 0 n (a.put ox.dst vx) = fr us := fun us => by
    rw [← hfr]
    refine putL_eq n fun i hi => ?_
    have := List.all_eq_true.1 hds i (List.mem_range.2 hi)
    exact eq_of_beq this
  have hd : ∀ {W : World}, Grows w.drew W → Grows w W := fun h => ⟨h.os, h.tape, h.output, h.size, h.block⟩
  have hset : ∀ j d, j < l.toArray.size → ((Array.replicate l.toArray.size false).setIfInBounds x true).getD j d = decide (j = x) := by
    intro j d hj
    have hj' : j < l.length := by simpa using hj
    by_cases h : x = j
    · subst h
      simp [Array.getD, hj']
    · rw [getD_set_ne d h]
      simp [Array.getD, hj', Ne.symm h]
  have hstart : putAll l.toArray (fun j => (a.put ox.dst vx).tmps.getD (dstOf l.toArray j) undef) 0 n (a.put ox.dst vx) = a.put ox.dst vx := by
    refine putAll_start n fun j _ hj => ?_
    simp only [headM, Bool.and_eq_true] at hB
    have h3 := List.all_eq_true.1 hB.1.1.1.2 j (List.mem_range.2 (by omega))
    simp only [Bool.and_eq_true, decide_eq_true_eq] at h3
    exact h3.1.2
  have key := mask_go (P := P) (Q := Q) (ops := l.toArray) (n := n) (t0 := t0) (K := ts.length) (X := [x]) (a0 := a.put ox.dst vx) (w0 := w.drew) Grows (fun h k => h.trans k) F hF hB
    (fun i hi us W hG hf => by rw [he]; exact hop i hi us W (hd hG) hf)
    (fun us W hG hf => by rw [he]; exact wpAny_of_list ts lt _ _ _ hlt hseq (htail us W (hd hG) hf))
    n ((Array.replicate l.toArray.size false).setIfInBounds x true) (fun j => (a.put ox.dst vx).tmps.getD (dstOf l.toArray j) undef) w.drew (by simp)
    (fun j oj hjn _ hjl => by rw [hset j false (by omega)] at hjl; simp at hjl; omega)
    (fun t h1 h2 => by rw [hset t true h2]; simp)
    (by
      have : ∀ k, k ≤ n → unl (fun i => ((Array.replicate l.toArray.size false).setIfInBounds x true).getD i false) k = k := by
        intro k
        induction k with
        | zero => intro _; rfl
        | succ k ih =>
          intro hk
          rw [unl, ih (by omega), hset k false (by omega), if_neg (by simp; omega)]
      exact this n (Nat.le_refl _)) (Grows.refl _)
    (fun i hi hil => by rw [hset i false (by omega)] at hil; simp at hil; omega)
  rw [hstart] at key
  have := wpAny_take (md := .any) hox hsel hfree hready (fun c a w h => hQ c a _ _ w h) (.inl ⟨hwx, hyx⟩) key
  rw [show l.toArray.size = n + ts.length + 1 from hts]
  rw [show l.toArray.size = n + ts.length + 1 from hts] at this
  exact this

/-- The same without such an operation: the first n by facts; each is waited for, in the end, by the next one; then the rest as a list. -/
theorem region_mask0 {P : Program} {Q : Exit → Act → World → Prop} {id : Nat} {a : Act} {w : World} {l : List Oper} {fr : (Nat → Value) → Act} (n t0 : Nat) (ds : List Nat) (F : Nat → Value → World → Prop)
    (hm : P.follows .mixedOrders = true) (hB : headM l.toArray n t0 [] a.tmps.size = true) (hds : ((List.range n).all fun i => dstOf l.toArray (0 + i) == ds.getD i 0) = true)
    (hseq : Region.seqB .any l.toArray (l.drop n).length n (maskN l.toArray.size n []) = true)
    (hfr : ∀ us, putL ds us 0 n a = fr us)
    (hF : ∀ i v W W', Grows W W' → F i v W → F i v W')
    (hop : ∀ i, i < n → ∀ (us : Nat → Value) (W : World), Grows w W → (∀ j, j < n → waits l.toArray i j = true → F j (us j) W) →
      wpOp P l.toArray Q i (fun a' W' => ∃ v, a' = (fr us).put (some (dstOf l.toArray i)) v ∧ Grows W W' ∧ F i v W') (fr us) W)
    (htail : ∀ (us : Nat → Value) (W : World), Grows w W → (∀ i, i < n → F i (us i) W) → wpList P l.toArray Q (l.drop n) (fr us) W) :
    (Code.region id l.toArray true).wp P Q a w := by
  have hn : n ≤ l.toArray.size := by
    simp only [headM, Bool.and_eq_true, decide_eq_true_eq] at hB
    exact hB.1.1.1.1.1.1
  have hts : l.toArray.size = n + (l.drop n).length := by
    have : l.toArray.size = l.length := by simp
    rw [List.length_drop]
    omega
  refine wp_region_any hm ?_
  have he : ∀ us, putAll l.toArray us 0 n a = fr us := fun us => by
    rw [← hfr]
    refine putL_eq n fun i hi => ?_
    have := List.all_eq_true.1 hds i (List.mem_range.2 hi)
    exact eq_of_beq this
  have hd : ∀ {W : World}, Grows w.drew W → Grows w W := fun h => ⟨h.os, h.tape, h.output, h.size, h.block⟩
  have hset : ∀ j d, j < l.toArray.size → (Array.replicate l.toArray.size false).getD j d = false := by
    intro j d hj
    have hj' : j < l.length := by simpa using hj
    simp [Array.getD, hj']
  have hstart : putAll l.toArray (fun j => a.tmps.getD (dstOf l.toArray j) undef) 0 n a = a := by
    refine putAll_start n fun j _ hj => ?_
    simp only [headM, Bool.and_eq_true] at hB
    have h3 := List.all_eq_true.1 hB.1.1.1.2 j (List.mem_range.2 (by omega))
    simp only [Bool.and_eq_true, decide_eq_true_eq] at h3
    exact h3.1.2
  have key := mask_go (P := P) (Q := Q) (ops := l.toArray) (n := n) (t0 := t0) (K := (l.drop n).length) (X := []) (a0 := a) (w0 := w.drew) Grows (fun h k => h.trans k) F hF hB
    (fun i hi us W hG hf => by rw [he]; exact hop i hi us W (hd hG) hf)
    (fun us W hG hf => by rw [he]; exact wpAny_of_seq (l.drop n) n _ _ _ (fun j => by simp [List.getElem?_drop]) hseq (htail us W (hd hG) hf))
    n (Array.replicate l.toArray.size false) (fun j => a.tmps.getD (dstOf l.toArray j) undef) w.drew (by simp)
    (fun j oj hjn _ hjl => by rw [hset j false (by omega)] at hjl; cases hjl)
    (fun t h1 h2 => by rw [hset t true h2]; simp)
    (by
      have : ∀ k, k ≤ n → unl (fun i => (Array.replicate l.toArray.size false).getD i false) k = k := by
        intro k
        induction k with
        | zero => intro _; rfl
        | succ k ih =>
          intro hk
          rw [unl, ih (by omega), hset k false (by omega)]
          simp
      exact this n (Nat.le_refl _)) (Grows.refl _)
    (fun i hi hil => by rw [hset i false (by omega)] at hil; cases hil)
  rw [hstart, ← hts] at key
  exact key

end Go.Proofs.Rf
