/- A region that draws its order, walked by facts (Facts.lean), where some operations behind the first n yield the same in every world, and may come up whenever they like (the address of a field that is stored at last): they are taken first. Then the first n by facts, then the rest, whose order is forced, as a list. · skylightref10.Build: the histogram of a tree. · A tree out of the frame. · What stands in a tree that was built, in plain names. -/
import Derived.StillTail
import Derived.Test.YtmdknedngiggdaaJ05
import Derived.Test.YtmdknedngiggdaaJ18
section
/-
  A region that draws its order, walked by facts (Facts.lean), where some operations behind the first n yield the same in every world, and may come up whenever they like (the address of a field that is stored at last): they are taken first. Then the first n by facts, then the rest, whose order is forced, as a list.
-/
namespace Go.Proofs.Rf
open Go Go.RowKit

/-- The first n operations, and those of X, have come up. -/
def maskN (size n : Nat) (X : List Nat) : Array Bool := ((List.range size).map fun i => decide (i < n) || X.contains i).toArray
theorem maskN_getD {size n j : Nat} {X : List Nat} (d : Bool) (h : j < size) : (maskN size n X).getD j d = (decide (j < n) || X.contains j) := by simp [maskN, Array.getD, h]

/-- What is asked: each of the first n has a slot of its own, and waits for earlier ones alone; each is waited for by a later one of them or by t0; what is behind them is of X, or t0, or waits for one behind them that isn't of X. -/
def headM (ops : Array Oper) (n t0 : Nat) (X : List Nat) (size : Nat) : Bool :=
  decide (n ≤ ops.size) && (X.all fun x => decide (n ≤ x)) && decide (n ≤ t0) &&
  ((List.range n).all fun i => ((ops[i]?).map (·.dst.isSome)).getD false && decide (dstOf ops i < size) && ((List.range n).all fun j => j == i || dstOf ops j != dstOf ops i)) &&
  ((List.range n).all fun i => ((ops[i]?).map (·.after.all fun e => !Region.binds .any e || decide (e.on < i))).getD false) &&
  ((List.range n).all fun i => (List.range ops.size).any fun k => decide (i < k) && (decide (k < n) || k == t0) && waits ops k i) &&
  ((List.range ops.size).all fun t => decide (t < n) || X.contains t || t == t0 || ((List.range ops.size).any fun j => decide (n ≤ j) && !X.contains j && waits ops t j))

section
variable {P : Program} {ops : Array Oper} {Q : Exit → Act → World → Prop} {n t0 K : Nat} {X : List Nat} {a0 : Act} {w0 : World}

theorem mask_go (G : World → World → Prop) (hGt : ∀ {A B C : World}, G A B → G B C → G A C)
    (F : Nat → Value → World → Prop) (hF : ∀ i v W W', G W W' → F i v W → F i v W') (hB : headM ops n t0 X a0.tmps.size = true)
    (hop : ∀ i, i < n → ∀ (us : Nat → Value) (W : World), G w0 W → (∀ j, j < n → waits ops i j = true → F j (us j) W) →
      wpOp P ops Q i (fun a' W' => ∃ v, a' = (putAll ops us 0 n a0).put (some (dstOf ops i)) v ∧ G W W' ∧ F i v W') (putAll ops us 0 n a0) W)
    (htail : ∀ (us : Nat → Value) (W : World), G w0 W → (∀ i, i < n → F i (us i) W) → wpAny P .any ops Q K (maskN ops.size n X) (putAll ops us 0 n a0) W) :
    ∀ (m : Nat) (listed : Array Bool) (us : Nat → Value) (W : World), listed.size = ops.size →
      (∀ j oj, j < n → ops[j]? = some oj → listed.getD j false = true → ∀ e ∈ oj.after, Region.binds .any e = true → listed.getD e.on false = true) →
      (∀ t, n ≤ t → t < ops.size → listed.getD t true = X.contains t) → unl (fun i => listed.getD i false) n = m → G w0 W → (∀ i, i < n → listed.getD i false = true → F i (us i) W) →
      wpAny P .any ops Q (m + K) listed (putAll ops us 0 n a0) W := by
  simp only [headM, Bool.and_eq_true, decide_eq_true_eq] at hB
  obtain ⟨⟨⟨⟨⟨⟨hn, hX⟩, ht0⟩, hB1⟩, hB0⟩, hB2⟩, hB3⟩ := hB
  rw [List.all_eq_true] at hB0 hB1 hB2 hB3 hX
  have hD : ∀ i, i < n → ∀ j, j < n → j ≠ i → dstOf ops j ≠ dstOf ops i := by
    intro i hi j hj hne
    have h1 := hB1 i (List.mem_range.2 hi)
    simp only [Bool.and_eq_true] at h1
    have h2 := List.all_eq_true.1 h1.2 j (List.mem_range.2 hj)
    simpa [hne] using h2
  have hE : ∀ i, i < n → ∃ o, ops[i]? = some o ∧ ∀ e ∈ o.after, Region.binds .any e = true → e.on < i := by
    intro i hi
    have h2 := hB0 i (List.mem_range.2 hi)
    cases ho : ops[i]? with
    | none => rw [ho] at h2; simp at h2
    | some o =>
      rw [ho] at h2
      simp only [Option.map_some, Option.getD_some, Array.all_eq_true_iff_forall_mem, Bool.or_eq_true, Bool.not_eq_true', decide_eq_true_eq] at h2
      exact ⟨o, rfl, fun e he hb => (h2 e he).resolve_left (by simp [hb])⟩
  have hsz : ∀ {l : Array Bool} {j : Nat}, l.size = ops.size → j < ops.size → l.getD j true = l.getD j false := by
    intro l j hl hj
    simp [Array.getD, hl, hj]
  intro m
  induction m with
  | zero =>
    intro listed us W hl hcl ht hu hG hf
    have hall := unl_zero n hu
    have e : listed = maskN ops.size n X := by
      apply Array.ext
      · simp [maskN, hl]
      · intro i h1 h2
        have h3 : i < ops.size := by omega
        by_cases hi : i < n
        · have := hall i hi
          simp only [Array.getD, h1, dif_pos] at this
          simp [maskN, hi]
          simpa using this
        · have := ht i (by omega) h3
          simp only [Array.getD, h1, dif_pos] at this
          simp [maskN, hi]
          simpa using this
    rw [Nat.zero_add, e]
    exact htail us W hG (fun i hi => hf i hi (hall i hi))
  | succ m ih =>
    intro listed us W hl hcl ht hu hG hf
    rw [show m + 1 + K = (m + K) + 1 by omega]
    obtain ⟨i0, hi0, hi0f, hi0l⟩ := exists_least (f := fun i => listed.getD i false) n (by omega)
    refine ⟨fun h0 => ?_, fun i hi => ?_⟩
    · obtain ⟨o, ho, hon⟩ := hE i0 hi0
      have : i0 ∈ Region.ready .any ops listed := by
        rw [mem_ready]
        exact ⟨by rw [hsz hl (by omega)]; exact hi0f, o, ho, fun e he hb => hi0l e.on (hon e he hb)⟩
      rw [h0] at this
      cases this
    · rw [mem_ready] at hi
      obtain ⟨hi1, o, ho, hdep⟩ := hi
      have hilt : i < ops.size := (Array.getElem?_eq_some_iff.1 ho).1
      have hfi : listed.getD i false = false := by rw [← hsz hl hilt]; exact hi1
      have hdw : ∀ j, waits ops i j = true → listed.getD j false = true := by
        intro j hw
        obtain ⟨o', ho', e, he, hb, hon⟩ := waits_spec hw
        rw [ho] at ho'; cases ho'
        subst hon
        exact hdep e he hb
      by_cases hin : i < n
      · refine wpOp_mono ?_ (hop i hin us W hG (fun j hj hw => hf j hj (hdw j hw)))
        rintro a' W' ⟨v, rfl, hG', hFv⟩
        rw [putAll_put (Nat.zero_le i) n (by omega) (fun j _ h2 h3 => hD i hin j (by omega) h3)]
        refine ih _ _ W' (by simp [hl]) ?_ ?_ ?_ (hGt hG hG') ?_
        · intro j oj hjn hj hjl e he hb
          by_cases hji : i = j
          · subst hji
            rw [ho] at hj; cases hj
            exact getD_set_true (hdep e he hb)
          · rw [getD_set_ne false hji] at hjl
            exact getD_set_true (hcl j oj hjn hj hjl e he hb)
        · intro t h1 h2
          rw [getD_set_ne true (by omega)]
          exact ht t h1 h2
        · have := unl_set (f := fun j => listed.getD j false) (g := fun j => (listed.setIfInBounds i true).getD j false) (i := i) hfi (by simp [Array.getD, hl, hilt]) (fun j hj => getD_set_ne false (Ne.symm hj)) n hin
          omega
        · intro j hj hjl
          by_cases hji : j = i
          · subst hji; rw [if_pos rfl]; exact hFv
          · rw [if_neg hji]
            rw [getD_set_ne false (Ne.symm hji)] at hjl
            exact hF _ _ _ _ hG' (hf j hj hjl)
      · exfalso
        have hti := ht i (by omega) hilt
        rw [hi1] at hti
        have h3 := hB3 i (List.mem_range.2 hilt)
        simp only [Bool.or_eq_true, decide_eq_true_eq, List.any_eq_true, List.mem_range, Bool.and_eq_true, beq_iff_eq, Bool.not_eq_true'] at h3
        rcases h3 with ((h3 | h3) | h3) | ⟨j, hj, ⟨hnj, hXj⟩, hw⟩
        · exact hin h3
        · rw [h3] at hti; cases hti
        · -- t0 may come up: so all have come up
          subst h3
          have hall : ∀ d, d < n → listed.getD (n - 1 - d) false = true := by
            intro d
            induction d using Nat.strongRecOn with
            | _ d ihd =>
              intro hd
              have h2 := hB2 (n - 1 - d) (List.mem_range.2 (by omega))
              simp only [List.any_eq_true, List.mem_range, Bool.and_eq_true, Bool.or_eq_true, decide_eq_true_eq, beq_iff_eq] at h2
              obtain ⟨k, hk, ⟨hlt, hkn⟩, hwk⟩ := h2
              by_cases hki : k = i
              · subst hki
                exact hdw _ hwk
              · have hkn' : k < n := by rcases hkn with h | h; exact h; exact absurd h hki
                have hkl := ihd (n - 1 - k) (by omega) (by omega)
                rw [show n - 1 - (n - 1 - k) = k by omega] at hkl
                obtain ⟨ok, hok, e2, he2, hb2, hon2⟩ := waits_spec hwk
                rw [← hon2]
                exact hcl k ok hkn' hok hkl e2 he2 hb2
          have := hall (n - 1 - i0) (by omega)
          rw [show n - 1 - (n - 1 - i0) = i0 by omega, hi0f] at this
          cases this
        · have h4 := ht j hnj hj
          rw [hsz hl hj, hdw j hw, hXj] at h4
          cases h4

/-- The tail's operations, by their numbers: each is the only one that may come up. -/
def seqI (ops : Array Oper) : List Nat → Array Bool → Bool
  | [], listed => (Region.ready .any ops listed).isEmpty
  | t :: ts, listed => decide (Region.ready .any ops listed = [t]) && seqI ops ts (listed.setIfInBounds t true)
theorem wpAny_of_list : ∀ (ts : List Nat) (l : List Oper) (listed : Array Bool) (a : Act) (w : World), (ts.map fun t => ops[t]?) = l.map some → seqI ops ts listed = true → wpList P ops Q l a w → wpAny P .any ops Q ts.length listed a w
  | [], [], _, _, _, _, hB, h => ⟨by simpa [seqI] using hB, h⟩
  | [], _ :: _, _, _, _, hl, _, _ => by simp at hl
  | _ :: _, [], _, _, _, hl, _, _ => by simp at hl
  | t :: ts, o :: l, listed, a, w, hl, hB, h => by
    simp only [List.map_cons, List.cons.injEq] at hl
    simp only [seqI, Bool.and_eq_true, decide_eq_true_eq] at hB
    refine ⟨fun h1 => (by rw [hB.1] at h1; cases h1), fun i hi => ?_⟩
    rw [hB.1] at hi
    have hit : i = t := by simpa using hi
    subst hit
    have hw : wpOp P ops Q i (wpList P ops Q l) a w := by unfold wpOp; simp only [hl.1]; exact h
    exact wpOp_mono (fun a' w' h' => wpAny_of_list ts l _ a' w' hl.2 hB.2 h') hw
end

/-- The law: the operation x yields vx in every world; the first n by facts; the rest, ts, as a list. -/
theorem region_mask {P : Program} {Q : Exit → Act → World → Prop} {id : Nat} {a : Act} {w : World} {l lt : List Oper} {ox : Oper} {fr : (Nat → Value) → Act} (n x t0 : Nat) (vx : Value) (ts ds : List Nat) (F : Nat → Value → World → Prop)
    (hm : P.follows .mixedOrders = true) (hB : headM l.toArray n t0 [x] (a.put ox.dst vx).tmps.size = true) (hds : ((List.range n).all fun i => dstOf l.toArray (0 + i) == ds.getD i 0) = true)
    (hsel : Region.noSelect l.toArray = true) (hox : l.toArray[x]? = some ox) (hfree : Region.free .any l.toArray (Array.replicate l.toArray.size false) x = true) (hready : (Region.ready .any l.toArray (Array.replicate l.toArray.size false)).contains x = true)
    (hnx : (decide (n ≤ x) && decide (x < l.toArray.size)) = true) (hts : decide (l.toArray.size = n + ts.length + 1) = true) (hlt : (ts.map fun t => l.toArray[t]?) = lt.map some) (hseq : seqI l.toArray ts (maskN l.toArray.size n [x]) = true)
    (hQ : ∀ c a d v w, Q (.panic c) (a.put d v) w → Q (.panic c) a w)
    (hwx : Region.wanted ox (yielded l.toArray a.tmps) = true) (hyx : ∀ w, (execOp a.eval ox).run P w = .ok (.value vx) w)
    (hfr : ∀ us, putL ds us 0 n (a.put ox.dst vx) = fr us)
    (hF : ∀ i v W W', Grows W W' → F i v W → F i v W')
    (hop : ∀ i, i < n → ∀ (us : Nat → Value) (W : World), Grows w W → (∀ j, j < n → waits l.toArray i j = true → F j (us j) W) →
      wpOp P l.toArray Q i (fun a' W' => ∃ v, a' = (fr us).put (some (dstOf l.toArray i)) v ∧ Grows W W' ∧ F i v W') (fr us) W)
    (htail : ∀ (us : Nat → Value) (W : World), Grows w W → (∀ i, i < n → F i (us i) W) → wpList P l.toArray Q lt (fr us) W) :
    (Code.region id l.toArray true).wp P Q a w := by
  simp only [Bool.and_eq_true, decide_eq_true_eq] at hnx hts
  refine wp_region_any hm ?_
  have he : ∀ us, putAll l.toArray us 0 n (a.put ox.dst vx) = fr us := fun us => by
    rw [← hfr]
    refine putL_eq n fun i hi => ?_
    have := List.all_eq_true.1 hds i (List.mem_range.2 hi)
    exact eq_of_beq this
  have hd : ∀ {W : World}, Grows w.drew W → Grows w W := fun h => ⟨h.os, h.tape, h.output, h.size, h.block⟩
  have hset : ∀ j d, j < l.toArray.size → ((Array.replicate l.toArray.size false).setIfInBounds x true).getD j d = decide (j = x) := by
    intro j d hj
    have hj' : j < l.length := by simpa using hj
    by_cases h : x = j
    · subst h
      simp [Array.getD, hj']
    · rw [getD_set_ne d h]
      simp [Array.getD, hj', Ne.symm h]
  have hstart : putAll l.toArray (fun j => (a.put ox.dst vx).tmps.getD (dstOf l.toArray j) undef) 0 n (a.put ox.dst vx) = a.put ox.dst vx := by
    refine putAll_start n fun j _ hj => ?_
    simp only [headM, Bool.and_eq_true] at hB
    have h3 := List.all_eq_true.1 hB.1.1.1.2 j (List.mem_range.2 (by omega))
    simp only [Bool.and_eq_true, decide_eq_true_eq] at h3
    exact h3.1.2
  have key := mask_go (P := P) (Q := Q) (ops := l.toArray) (n := n) (t0 := t0) (K := ts.length) (X := [x]) (a0 := a.put ox.dst vx) (w0 := w.drew) Grows (fun h k => h.trans k) F hF hB
    (fun i hi us W hG hf => by rw [he]; exact hop i hi us W (hd hG) hf)
    (fun us W hG hf => by rw [he]; exact wpAny_of_list ts lt _ _ _ hlt hseq (htail us W (hd hG) hf))
    n ((Array.replicate l.toArray.size false).setIfInBounds x true) (fun j => (a.put ox.dst vx).tmps.getD (dstOf l.toArray j) undef) w.drew (by simp)
    (fun j oj hjn _ hjl => by rw [hset j false (by omega)] at hjl; simp at hjl; omega)
    (fun t h1 h2 => by rw [hset t true h2]; simp)
    (by
      have : ∀ k, k ≤ n → unl (fun i => ((Array.replicate l.toArray.size false).setIfInBounds x true).getD i false) k = k := by
        intro k
        induction k with
        | zero => intro _; rfl
        | succ k ih =>
          intro hk
          rw [unl, ih (by omega), hset k false (by omega), if_neg (by simp; omega)]
      exact this n (Nat.le_refl _)) (Grows.refl _)
    (fun i hi hil => by rw [hset i false (by omega)] at hil; simp at hil; omega)
  rw [hstart] at key
  have := wpAny_take (md := .any) hox hsel hfree hready (fun c a w h => hQ c a _ _ w h) (.inl ⟨hwx, hyx⟩) key
  rw [show l.toArray.size = n + ts.length + 1 from hts]
  rw [show l.toArray.size = n + ts.length + 1 from hts] at this
  exact this

/-- The same without such an operation: the first n by facts; each is waited for, in the end, by the next one; then the rest as a list. -/
theorem region_mask0 {P : Program} {Q : Exit → Act → World → Prop} {id : Nat} {a : Act} {w : World} {l : List Oper} {fr : (Nat → Value) → Act} (n t0 : Nat) (ds : List Nat) (F : Nat → Value → World → Prop)
    (hm : P.follows .mixedOrders = true) (hB : headM l.toArray n t0 [] a.tmps.size = true) (hds : ((List.range n).all fun i => dstOf l.toArray (0 + i) == ds.getD i 0) = true)
    (hseq : Region.seqB .any l.toArray (l.drop n).length n (maskN l.toArray.size n []) = true)
    (hfr : ∀ us, putL ds us 0 n a = fr us)
    (hF : ∀ i v W W', Grows W W' → F i v W → F i v W')
    (hop : ∀ i, i < n → ∀ (us : Nat → Value) (W : World), Grows w W → (∀ j, j < n → waits l.toArray i j = true → F j (us j) W) →
      wpOp P l.toArray Q i (fun a' W' => ∃ v, a' = (fr us).put (some (dstOf l.toArray i)) v ∧ Grows W W' ∧ F i v W') (fr us) W)
    (htail : ∀ (us : Nat → Value) (W : World), Grows w W → (∀ i, i < n → F i (us i) W) → wpList P l.toArray Q (l.drop n) (fr us) W) :
    (Code.region id l.toArray true).wp P Q a w := by
  have hn : n ≤ l.toArray.size := by
    simp only [headM, Bool.and_eq_true, decide_eq_true_eq] at hB
    exact hB.1.1.1.1.1.1
  have hts : l.toArray.size = n + (l.drop n).length := by
    have : l.toArray.size = l.length := by simp
    rw [List.length_drop]
    omega
  refine wp_region_any hm ?_
  have he : ∀ us, putAll l.toArray us 0 n a = fr us := fun us => by
    rw [← hfr]
    refine putL_eq n fun i hi => ?_
    have := List.all_eq_true.1 hds i (List.mem_range.2 hi)
    exact eq_of_beq this
  have hd : ∀ {W : World}, Grows w.drew W → Grows w W := fun h => ⟨h.os, h.tape, h.output, h.size, h.block⟩
  have hset : ∀ j d, j < l.toArray.size → (Array.replicate l.toArray.size false).getD j d = false := by
    intro j d hj
    have hj' : j < l.length := by simpa using hj
    simp [Array.getD, hj']
  have hstart : putAll l.toArray (fun j => a.tmps.getD (dstOf l.toArray j) undef) 0 n a = a := by
    refine putAll_start n fun j _ hj => ?_
    simp only [headM, Bool.and_eq_true] at hB
    have h3 := List.all_eq_true.1 hB.1.1.1.2 j (List.mem_range.2 (by omega))
    simp only [Bool.and_eq_true, decide_eq_true_eq] at h3
    exact h3.1.2
  have key := mask_go (P := P) (Q := Q) (ops := l.toArray) (n := n) (t0 := t0) (K := (l.drop n).length) (X := []) (a0 := a) (w0 := w.drew) Grows (fun h k => h.trans k) F hF hB
    (fun i hi us W hG hf => by rw [he]; exact hop i hi us W (hd hG) hf)
    (fun us W hG hf => by rw [he]; exact wpAny_of_seq (l.drop n) n _ _ _ (fun j => by simp [List.getElem?_drop]) hseq (htail us W (hd hG) hf))
    n (Array.replicate l.toArray.size false) (fun j => a.tmps.getD (dstOf l.toArray j) undef) w.drew (by simp)
    (fun j oj hjn _ hjl => by rw [hset j false (by omega)] at hjl; cases hjl)
    (fun t h1 h2 => by rw [hset t true h2]; simp)
    (by
      have : ∀ k, k ≤ n → unl (fun i => (Array.replicate l.toArray.size false).getD i false) k = k := by
        intro k
        induction k with
        | zero => intro _; rfl
        | succ k ih =>
          intro hk
          rw [unl, ih (by omega), hset k false (by omega)]
          simp
      exact this n (Nat.le_refl _)) (Grows.refl _)
    (fun i hi hil => by rw [hset i false (by omega)] at hil; cases hil)
  rw [hstart, ← hts] at key
  exact key

end Go.Proofs.Rf
end
section
/- skylightref10.Build: the histogram of a tree. -/
namespace Go.Proofs.Rw
open Go.RowKit Go.Shelf Go.Proofs.Lh Go.Proofs.Rf
def zeroH : Hx := ⟨0, 0, none, 0, []⟩
abbrev Hx.sl (x : Hx) : Value := .slice x.A x.ls.length x.c
abbrev arrH (H : Nat → Hx) : Array Value := #[.int .i64 (H 0).k, .int .i64 (H 0).g, (H 0).sl, .int .i64 (H 1).k, .int .i64 (H 1).g, (H 1).sl, .int .i64 (H 2).k, .int .i64 (H 2).g, (H 2).sl, .int .i64 (H 3).k, .int .i64 (H 3).g, (H 3).sl]
theorem arrH_at {W : World} {b : Nat} {H : Nat → Hx} {T : TypeId} (h : W.heap[b]? = some (.cells (arrH H) T)) (i : Nat) (hi : i < 4) : W.cell? ⟨b, i * 3, none⟩ = some (.int .i64 (H i).k) ∧ W.cell? ⟨b, i * 3 + 1, none⟩ = some (.int .i64 (H i).g) ∧ W.cell? ⟨b, i * 3 + 2, none⟩ = some (H i).sl := by
  match i, hi with
  | 0, _ => simp [World.cell?, h]
  | 1, _ => simp [World.cell?, h]
  | 2, _ => simp [World.cell?, h]
  | 3, _ => simp [World.cell?, h]
def updH (H : Nat → Hx) (i : Nat) (x : Hx) (j : Nat) : Hx := if j = i then x else H j
theorem frozenH {W : World} {b : Nat} {H : Nat → Hx} {T : TypeId} (h : W.heap[b]? = some (.cells (arrH H) T)) : ∀ i, W.frozen? ⟨b, i, none⟩ = false := fun i => by simp [World.frozen?, h]
/-- Its levels lie in memory. -/
def Hx.In (x : Hx) (W : World) : Prop := Levs W W.heap.size x.sl x.ls
theorem Hx.In.grow {x : Hx} {w w' : World} (h : x.In w) (hb : Below w.heap.size w w') : x.In w' := Levs.grow h hb
end Go.Proofs.Rw
namespace Go.Proofs.Ytmdknedngiggdaa
open Go.RowKit Go.Shelf Go.Proofs.Rw Go.Proofs.Lh Go.Proofs.Rf
theorem arrH_set {W : World} {b : Nat} {H : Nat → Hx} {T : TypeId} (h : W.heap[b]? = some (.cells (arrH H) T)) (i : Nat) (hi : i < 4) (x : Hx) : (((W.setCell ⟨b, i * 3, none⟩ (.int .i64 x.k)).setCell ⟨b, i * 3 + 1, none⟩ (.int .i64 x.g)).setCell ⟨b, i * 3 + 2, none⟩ x.sl).heap[b]? = some (.cells (arrH (updH H i x)) T) := by
  match i, hi with
  | 0, _ => rw [set1 _ (set1 _ (set1 _ h))]; rfl
  | 1, _ => rw [set1 _ (set1 _ (set1 _ h))]; rfl
  | 2, _ => rw [set1 _ (set1 _ (set1 _ h))]; rfl
  | 3, _ => rw [set1 _ (set1 _ (set1 _ h))]; rfl
theorem in_other {x : Hx} {W W' : World} {p : Nat} {cs : Array Value} {T : TypeId} (h : x.In W) (hp : W.heap[p]? = some (.cells cs T)) (h1 : T ≠ 65) (h2 : T ≠ 73) (hg : W.grownBy W' (some p)) : x.In W' :=
  Levs.other h hg fun b e => by
    cases e
    have ht : Ty W T p := ⟨_, _, hp⟩
    exact ⟨fun h => Ty.ne ht h h1 rfl, fun h => Ty.ne ht h h2 rfl⟩
theorem grown3o {W : World} {b i : Nat} (x' y' z' : Value) : W.grownBy (((W.setCell ⟨b, i, none⟩ x').setCell ⟨b, i + 1, none⟩ y').setCell ⟨b, i + 2, none⟩ z') (some b) :=
  grown_trans (grown_trans (grown_set _ _ _ _) (grown_set _ _ _ _)) (grown_set _ _ _ _)
theorem keep3o {p q i : Nat} {W : World} (hne : q ≠ p) (x' y' z' : Value) : (((W.setCell ⟨p, i, none⟩ x').setCell ⟨p, i + 1, none⟩ y').setCell ⟨p, i + 2, none⟩ z').heap[q]? = W.heap[q]? := by
  rw [Below.heap_setCell _ _ _ _ hne, Below.heap_setCell _ _ _ _ hne, Below.heap_setCell _ _ _ _ hne]
theorem below3o {W w : World} {b B i : Nat} (h : Below B w W) (hb : B ≤ b) (x' y' z' : Value) : Below B w (((W.setCell ⟨b, i, none⟩ x').setCell ⟨b, i + 1, none⟩ y').setCell ⟨b, i + 2, none⟩ z') :=
  ((h.setCell (p := ⟨b, i, none⟩) hb _).setCell (p := ⟨b, i + 1, none⟩) hb _).setCell (p := ⟨b, i + 2, none⟩) hb _
set_option maxHeartbeats 4000000 in
theorem pair_any (a b : Hx) (ha : Lh.Good a.m) (hb : Lh.Good b.m) (W : World) (ia : a.In W) (ib : b.In W) :
    Calls Try.prog 41 #[.slice (some ⟨W.heap.size, 0, none⟩) 2 2] (W.alloc (.cells #[.int .i64 a.k, .int .i64 a.g, a.sl, .int .i64 b.k, .int .i64 b.g, b.sl] 27)) fun e w' => ∃ (x : Hx), e = .returned (.tuple #[.agg #[.int .i64 x.k, .int .i64 x.g, x.sl], .int .i64 (badN [] [a.m, b.m] : Nat)]) ∧ x.m = outM [] [a.m, b.m] ∧ x.In w' ∧ Below W.heap.size W w' := by
  have hal := (Below.refl W.heap.size W).alloc (Nat.le_refl _) (.cells #[.int .i64 a.k, .int .i64 a.g, a.sl, .int .i64 b.k, .int .i64 b.g, b.sl] 27)
  have hs := hs_block (heap_alloc_new W (.cells #[.int .i64 a.k, .int .i64 a.g, a.sl, .int .i64 b.k, .int .i64 b.g, b.sl] 27)) [a, b] rfl 2 rfl (by omega) (by
      intro x hx
      simp at hx
      rcases hx with rfl | rfl
      · exact ia.grow hal
      · exact ib.grow hal)
  have := rmerge_any [a, b] ⟨by simp, by simp, (by intro e he; cases he), by
      intro x hx
      simp at hx
      rcases hx with rfl | rfl
      · exact ha
      · exact hb⟩ _ _ 2 hs
  refine this.mono ?_
  rintro e w' ⟨A, c, rfl, hL, hB⟩
  exact ⟨⟨(outM [] [a.m, b.m]).1, (outM [] [a.m, b.m]).2.1, A, c, (outM [] [a.m, b.m]).2.2⟩, rfl, rfl, hL, thn hal hB⟩

theorem arrH_all {W : World} {b : Nat} {H : Nat → Hx} {T : TypeId} (h : W.heap[b]? = some (.cells (arrH H) T)) : (W.cell? ⟨b, 0, none⟩ = some (.int .i64 (H 0).k) ∧ W.cell? ⟨b, 1, none⟩ = some (.int .i64 (H 0).g) ∧ W.cell? ⟨b, 2, none⟩ = some (H 0).sl) ∧ (W.cell? ⟨b, 3, none⟩ = some (.int .i64 (H 1).k) ∧ W.cell? ⟨b, 4, none⟩ = some (.int .i64 (H 1).g) ∧ W.cell? ⟨b, 5, none⟩ = some (H 1).sl) ∧ (W.cell? ⟨b, 6, none⟩ = some (.int .i64 (H 2).k) ∧ W.cell? ⟨b, 7, none⟩ = some (.int .i64 (H 2).g) ∧ W.cell? ⟨b, 8, none⟩ = some (H 2).sl) ∧ (W.cell? ⟨b, 9, none⟩ = some (.int .i64 (H 3).k) ∧ W.cell? ⟨b, 10, none⟩ = some (.int .i64 (H 3).g) ∧ W.cell? ⟨b, 11, none⟩ = some (H 3).sl) :=
  ⟨arrH_at h 0 (by omega), arrH_at h 1 (by omega), arrH_at h 2 (by omega), arrH_at h 3 (by omega)⟩
/-- Build's memory behind its first loop. -/
structure Bc (w W : World) (bV : Nat) (H : Nat → Hx) (x : Hx) : Prop where
  arr : W.heap[w.heap.size + 1 + 1]? = some (.cells (arrH H) 85)
  var : W.heap[bV]? = some (.cells #[.int .i64 x.k, .int .i64 x.g, x.sl] 27)
  res : W.heap[w.heap.size + 1]? = some (.cells #[.int .i64 0, .int .i64 0, .slice none 0 0] 27)
  lt : w.heap.size + 1 + 1 < bV
  ins : ∀ i, i < 4 → (H i).In W
  xin : x.In W
  bel : Below w.heap.size w W
theorem Bc.grow {w W W' : World} {bV : Nat} {H : Nat → Hx} {x : Hx} (h : Bc w W bV H x) (hb : Below W.heap.size W W') : Bc w W' bV H x :=
  ⟨(hb.block _ (lt_of h.arr)).trans h.arr, (hb.block _ (lt_of h.var)).trans h.var, (hb.block _ (lt_of h.res)).trans h.res, h.lt, fun i hi => (h.ins i hi).grow hb, h.xin.grow hb, thn h.bel hb⟩
theorem Bc.set {w W : World} {bV : Nat} {H : Nat → Hx} {x : Hx} (h : Bc w W bV H x) (y : Hx) (hy : y.In W) : Bc w (((W.setCell ⟨bV, 0, none⟩ (.int .i64 y.k)).setCell ⟨bV, 1, none⟩ (.int .i64 y.g)).setCell ⟨bV, 2, none⟩ y.sl) bV H y := by
  have hl := h.lt
  exact ⟨(keep3 (by omega) _ _ _).trans h.arr, set3 h.var _ _ _, (keep3 (by omega) _ _ _).trans h.res, hl, fun i hi => in_other (h.ins i hi) h.var (by decide) (by decide) (grown3 _ _ _), in_other hy h.var (by decide) (by decide) (grown3 _ _ _), below3 h.bel (by omega) _ _ _⟩

def lvT (t : Tr) (i : Nat) : Lv := (play (kOf t.K) (t.ds i) (doneN (t.ds i))).2
theorem tree_ok {t : Tr} (hl : IsLight t) : (∀ i, i < 4 → Lh.Stt (kOf t.K) (hM (kOf t.K) (lvT t) i) (fun p => exactN (kOf t.K) p (t.ds i) (doneN (t.ds i))) (tot (lvT t i))) ∧ ∀ i, i < 4 → tot (lvT t i) ≤ 35184372088832 := by
  have hk := kOf_le t.K
  refine ⟨fun i hi => Lh.Stt.play hk.1 (by omega) (t.ds i) (doneN (t.ds i)) (by unfold doneN; omega) (by unfold doneN; omega), fun i hi => ?_⟩
  have h1 := (hl i hi).1
  have h3 := play_tot (k := kOf t.K) hk.1 (by omega) (t.ds i) 1099511627776 (hl i hi).2 (doneN (t.ds i)) (by unfold doneN; omega)
  have h4 : doneN (t.ds i) * 1099511627776 ≤ 20 * 1099511627776 := Nat.mul_le_mul_right _ (by unfold doneN; omega)
  unfold lvT
  omega
set_option maxRecDepth 100000 in
set_option maxHeartbeats 4000000 in
theorem build_any (t : Tr) (w : World) (hok : TrOk t w) (hl : IsLight t) : Calls Try.prog 22 #[.agg t.cells] w fun e w' => ∃ x : Hx, e = .returned (.agg #[.int .i64 x.k, .int .i64 x.g, x.sl]) ∧ x.m = treeM (kOf t.K) (lvT t) (t.deep % 5) ∧ x.In w' ∧ Below w.heap.size w w' := by
  obtain ⟨W0, hW0, hz0, p0, p1, p2, hB0⟩ := heap_three w (.cells t.cells 52) (.cells #[.int .i64 0, .int .i64 0, .slice none 0 0] 27) (.cells (arrH fun _ => zeroH) 85)
  have hW0' : ((w.alloc (.cells t.cells 52)).alloc (.cells #[.int .i64 0, .int .i64 0, .slice none 0 0] 27)).alloc (.cells #[.int .i64 0, .int .i64 0, .slice none 0 0, .int .i64 0, .int .i64 0, .slice none 0 0, .int .i64 0, .int .i64 0, .slice none 0 0, .int .i64 0, .int .i64 0, .slice none 0 0] 85) = W0 := hW0.symm
  have hma : ∀ j, j < 4 → ∀ W, Below w.heap.size w W → Calls Try.prog 24 #[.int .i64 t.K, .slice (t.A j) (t.ds j).length (t.c j)] W fun e w' => ∃ A c, e = .returned (hv (kOf t.K) 0 (.slice A (lvT t j).length c)) ∧ Levs w' w'.heap.size (.slice A (lvT t j).length c) (lvT t j) ∧ Below W.heap.size W w' := fun j hj W hW => gmade_any t.K hok.wf (t.ds j) W (t.A j) _ (t.c j) ((hok.deeds j hj).grow hW)
  have hdeep := hok.deep
  have HMA := Lib.hid hma
  have HLI := Lib.hid hl
  have HW0 := Lib.hid hW0'
  have P0 := Lib.hid p0
  have P1 := Lib.hid p1
  have P2 := Lib.hid p2
  have HZ0 := Lib.hid hz0
  have HB0 := Lib.hid hB0
  clear hma hl hW0 hW0' p0 p1 p2 hz0 hB0 hok
  go_enter Try.func22, Try.ntmps22
  go_upto_region 2 with (fail)
  rw [HW0.out]
  go_wp2
  go_loopw [4] (fun p wr => ∃ (j : Nat) (H : Nat → Hx), p = .int .i64 (j : Int) ∧ j ≤ 4 ∧ Hid (wr.heap[w.heap.size + 1 + 1]? = some (.cells (arrH H) 85)) ∧ Hid (∀ i, i < j → (H i).m = hM (kOf t.K) (lvT t) i ∧ (H i).In wr) ∧ Hid (wr.heap[w.heap.size]? = some (.cells t.cells 52)) ∧ Hid (wr.heap[w.heap.size + 1]? = some (.cells #[.int .i64 0, .int .i64 0, .slice none 0 0] 27)) ∧ Hid (Below w.heap.size w wr)) (fun p _ => 4 - (intOf p).toNat)
  case atStart => exact ⟨0, _, rfl, by omega, P2, Lib.hid fun i h => absurd h (by omega), P0, P1, HB0⟩
  case round =>
    obtain ⟨j, H, rfl, hj, HP2, HIN, HP0, HP1, HBR⟩ := hrel
    by_cases hlt : j < 4
    · obtain ⟨y0, y1, -⟩ := tr_box HP0.out
      have y1 := y1 j hlt
      have lX := lt_of HP0.out
      have lA := lt_of HP2.out
      have hma := fun (W : World) (hW : Grows wr W) => HMA.out j hlt W (thn HBR.out hW)
      obtain ⟨kk, hkk⟩ : ∃ x, kOf t.K = x := ⟨_, rfl⟩
      obtain ⟨L, hL⟩ : ∃ x, lvT t j = x := ⟨_, rfl⟩
      obtain ⟨K, hK⟩ : ∃ x, t.K = x := ⟨_, rfl⟩
      obtain ⟨A, hA⟩ : ∃ x, t.A j = x := ⟨_, rfl⟩
      obtain ⟨N, hN⟩ : ∃ x, (t.ds j).length = x := ⟨_, rfl⟩
      obtain ⟨c, hc⟩ : ∃ x, t.c j = x := ⟨_, rfl⟩
      rw [hkk, hL, hK, hA, hN, hc] at hma
      rw [hK] at y0
      rw [hA, hN, hc] at y1
      have HKK := Lib.hid hkk
      have HLL := Lib.hid hL
      have HM := Lib.hid hma
      have Y0 := Lib.hid y0
      have Y1 := Lib.hid y1
      have LX := Lib.hid lX
      have HZL := Lib.hid lA
      have HJ4 := Lib.hid hlt
      clear y0 y1 lX lA hma hkk hL hK hA hN hc
      go_upto_region 5 with (fail)
      refine region_mask0 (fr := ?frB) 8 8 [22, 23, 24, 25, 26, 27, 28, 29] (fun i v W => match i with
          | 0 => v = .int .i64 (j : Int)
          | 1 => v = .pointer (some ⟨w.heap.size, 0, none⟩)
          | 2 => v = .int .i64 K
          | 3 => v = .int .i64 (j : Int)
          | 4 => v = .pointer (some ⟨w.heap.size, 1, none⟩)
          | 5 => v = .pointer (some ⟨w.heap.size, 1 + j, none⟩)
          | 6 => v = .slice A N c
          | 7 => ∃ A1 c1, v = .agg #[.int .i64 (kk : Int), .int .i64 0, .slice A1 L.length c1] ∧ Levs W W.heap.size (.slice A1 L.length c1) L
          | _ => True) rfl ?hBB (by kernel_rfl) (by kernel_rfl) ?hfrB ?hFB ?hopB ?htailB
      case hBB => kernel_rfl
      case hfrB =>
        intro us
        simp only [putL]
        go_simp
        rfl
      case hFB =>
        intro i v W W' hG h
        match i with
        | 0 => exact h
        | 1 => exact h
        | 2 => exact h
        | 3 => exact h
        | 4 => exact h
        | 5 => exact h
        | 6 => exact h
        | 7 => exact (by obtain ⟨A1, c1, h1, h2⟩ := h; exact ⟨A1, c1, h1, h2.grow hG⟩)
        | n + 8 => trivial
      case hopB =>
        intro i hi us W2 hG hd
        match i, hi with
        | 0, _ =>
          clear hd
          exact hop_value rfl rfl rfl (v := .int .i64 (j : Int)) (W' := W2) (by go_simp) (Grows.refl _) rfl
        | 1, _ =>
          clear hd
          exact hop_value rfl rfl rfl (v := .pointer (some ⟨w.heap.size, 0, none⟩)) (W' := W2) (by go_simp) (Grows.refl _) rfl
        | 2, _ =>
          have h1 : (us 1) = .pointer (some ⟨w.heap.size, 0, none⟩) := hd 1 (by omega) (by kernel_rfl)
          clear hd
          have q := (hG.cell (b := w.heap.size) (o := 0) LX.out).trans Y0.out
          have ql := Nat.lt_of_lt_of_le LX.out hG.size
          exact hop_value rfl rfl rfl (v := .int .i64 K) (W' := W2) (by go_simp) (Grows.refl _) rfl
        | 3, _ =>
          clear hd
          exact hop_value rfl rfl rfl (v := .int .i64 (j : Int)) (W' := W2) (by go_simp) (Grows.refl _) rfl
        | 4, _ =>
          clear hd
          exact hop_value rfl rfl rfl (v := .pointer (some ⟨w.heap.size, 1, none⟩)) (W' := W2) (by go_simp) (Grows.refl _) rfl
        | 5, _ =>
          have h4 : (us 4) = .pointer (some ⟨w.heap.size, 1, none⟩) := hd 4 (by omega) (by kernel_rfl)
          have h3 : (us 3) = .int .i64 (j : Int) := hd 3 (by omega) (by kernel_rfl)
          clear hd
          have hj4 := HJ4.out
          exact hop_value rfl rfl rfl (v := .pointer (some ⟨w.heap.size, 1 + j, none⟩)) (W' := W2) (by go_simp) (Grows.refl _) rfl
        | 6, _ =>
          have h5 : (us 5) = .pointer (some ⟨w.heap.size, 1 + j, none⟩) := hd 5 (by omega) (by kernel_rfl)
          clear hd
          have q := (hG.cell (b := w.heap.size) (o := 1 + j) LX.out).trans Y1.out
          have ql := Nat.lt_of_lt_of_le LX.out hG.size
          exact hop_value rfl rfl rfl (v := .slice A N c) (W' := W2) (by go_simp) (Grows.refl _) rfl
        | 7, _ =>
          have h2 : (us 2) = .int .i64 K := hd 2 (by omega) (by kernel_rfl)
          have h6 : (us 6) = .slice A N c := hd 6 (by omega) (by kernel_rfl)
          clear hd
          refine hop_call rfl rfl rfl (f := 24) (args := #[.int .i64 K, .slice A N c]) (by go_simp) ?_
          refine (HM.out W2 hG).mono ?_
          rintro e W' ⟨A1, c1, rfl, hL1, hb⟩
          exact ⟨_, rfl, hb, A1, c1, rfl, hL1⟩
        | d + 8, h => exact absurd h (by omega)
      case htailB =>
        intro us W2 hG hf
        have h0 : (us 0) = .int .i64 (j : Int) := hf 0 (by omega)
        have h7 : ∃ A1 c1, (us 7) = .agg #[.int .i64 (kk : Int), .int .i64 0, .slice A1 L.length c1] ∧ Levs W2 W2.heap.size (.slice A1 L.length c1) L := hf 7 (by omega)
        clear hf
        simp only [List.drop_succ_cons, List.drop_zero]
        obtain ⟨A1, c1, h7, hL1⟩ := h7
        have hp2 := (hG.block _ HZL.out).trans HP2.out
        have hfz := frozenH hp2
        obtain ⟨q0, q1, q2⟩ := arrH_at hp2 j hlt
        have hst := arrH_set hp2 j hlt ⟨(kk : Int), 0, A1, c1, L⟩
        have lA := lt_of hp2
        have HST := Lib.hid hst
        have HL1 := Lib.hid hL1
        have HG2 := Lib.hid hG
        rw [h0, h7]
        have HHP2 := Lib.hid hp2
        clear hst hL1 hG hp2 h7 h0
        go_wp2
        refine ⟨⟨j + 1, updH H j ⟨(kk : Int), 0, A1, c1, L⟩, by go_num, HJ4.out, HST, Lib.hid fun i hi => ?_, ?_, ?_, ?_⟩, by have := HJ4.out; simp [intOf]; omega⟩
        · by_cases e : i = j
          · subst e
            unfold updH
            rw [if_pos rfl]
            refine ⟨by unfold hM; rw [HKK.out, HLL.out]; rfl, in_other (x := ⟨(kk : Int), 0, A1, c1, L⟩) HL1.out HHP2.out (by decide) (by decide) (grown3o _ _ _)⟩
          · unfold updH
            rw [if_neg e]
            obtain ⟨e1, e2⟩ := HIN.out i (by omega)
            exact ⟨e1, in_other (e2.grow HG2.out) HHP2.out (by decide) (by decide) (grown3o _ _ _)⟩
        · exact Lib.hid ((keep3o (by omega) _ _ _).trans ((HG2.out.block _ LX.out).trans HP0.out))
        · exact Lib.hid ((keep3o (by omega) _ _ _).trans ((HG2.out.block _ (lt_of HP1.out)).trans HP1.out))
        · exact Lib.hid (below3o (thn HBR.out HG2.out) (by omega) _ _ _)
    · have e : j = 4 := by omega
      subst e
      obtain ⟨⟨a0, a1, a2⟩, -⟩ := arrH_all HP2.out
      obtain ⟨-, -, x5⟩ := tr_box HP0.out
      have lA := lt_of HP2.out
      have lX := lt_of HP0.out
      go_upto_region 7 with (fail)
      obtain ⟨W1, hW1⟩ : ∃ W, wr.alloc (.cells #[.int .i64 (H 0).k, .int .i64 (H 0).g, (H 0).sl] 27) = W := ⟨_, rfl⟩
      have b1 : Below wr.heap.size wr W1 := by rw [← hW1]; exact (Below.refl _ wr).alloc (Nat.le_refl _) _
      have p1 : W1.heap[wr.heap.size]? = some (.cells #[.int .i64 (H 0).k, .int .i64 (H 0).g, (H 0).sl] 27) := by rw [← hW1]; exact heap_alloc_new wr _
      have hc : Bc w W1 wr.heap.size H (H 0) := ⟨(b1.block _ lA).trans HP2.out, p1, (b1.block _ (lt_of HP1.out)).trans HP1.out, lA, fun i hi => (HIN.out i hi).2.grow b1, (HIN.out 0 (by omega)).2.grow b1, thn HBR.out b1⟩
      have HX5 := (b1.block _ lX).trans HP0.out
      rw [hW1]
      obtain ⟨bV, hbV⟩ : ∃ b, wr.heap.size = b := ⟨_, rfl⟩
      rw [hbV] at hc ⊢
      have HC := Lib.hid hc
      have hm : ∀ i, i < 4 → (H i).m = hM (kOf t.K) (lvT t) i := fun i hi => (HIN.out i hi).1
      have HM := Lib.hid hm
      clear a0 a1 a2 x5 lA lX p1 b1 hc hm hbV hW1 HP0 HP1 HP2 HBR HIN HMA P0 P1 P2 HZ0 HB0 HW0
      obtain ⟨-, -, x5⟩ := tr_box HX5
      have lX := lt_of HX5
      clear HX5
      obtain ⟨n, hn⟩ : ∃ n, t.deep = n := ⟨_, rfl⟩
      rw [hn] at x5 hdeep
      have HN := Lib.hid hn
      clear hn
      obtain ⟨d, hd⟩ : ∃ d, n % 5 = d := ⟨_, rfl⟩
      have hd5 : d < 5 := by omega
      have hdi : (n : Int) % 5 = (d : Int) := by omega
      have HDD := Lib.hid hd
      clear hd
      go_upto_region 8 with (fail)
      clear x5 hdi hdeep lX
      obtain ⟨hst, htt⟩ := tree_ok HLI.out
      obtain ⟨-, -, g01, g23, hall⟩ := tree_st hst htt
      have HST4 := Lib.hid hst
      have HG01 := Lib.hid g01
      have HG23 := Lib.hid g23
      have HALL := Lib.hid hall
      have HDE : Hid (t.deep % 5 = d) := Lib.hid (by rw [HN.out]; exact HDD.out)
      clear hst htt g01 g23 hall HLI
      rcases (by omega : d = 0 ∨ d = 1 ∨ 2 ≤ d) with rfl | rfl | h2
      · go_wp2
        go_loopw [15] (fun p wr => p = .int .i64 2 ∧ Hid (Bc w wr bV H (H 0))) (fun _ _ => 0)
        case atStart => exact ⟨rfl, HC⟩
        case round =>
          obtain ⟨rfl, HCR⟩ := hrel
          go_upto_region 21 with (fail)
          have hcc := HCR.out
          obtain ⟨v0, v1, v2⟩ := box3 hcc.var
          obtain ⟨r0, r1, r2⟩ := box3 hcc.res
          have fr : ∀ i, wr.frozen? ⟨w.heap.size + 1, i, none⟩ = false := fun i => by simp [World.frozen?, hcc.res]
          have lr := lt_of hcc.res
          have hs := set3 hcc.res (.int .i64 (H 0).k) (.int .i64 (H 0).g) (H 0).sl
          have hin : (H 0).In (((wr.setCell ⟨w.heap.size + 1, 0, none⟩ (.int .i64 (H 0).k)).setCell ⟨w.heap.size + 1, 1, none⟩ (.int .i64 (H 0).g)).setCell ⟨w.heap.size + 1, 2, none⟩ (H 0).sl) := in_other hcc.xin hcc.res (by decide) (by decide) (grown3 _ _ _)
          have hbl := below3 hcc.bel (b := w.heap.size + 1) (by omega) (.int .i64 (H 0).k) (.int .i64 (H 0).g) (H 0).sl
          have HS := Lib.hid hs
          have HI := Lib.hid hin
          have HBL := Lib.hid hbl
          clear hs hin hbl hcc
          go_wp2
          generalize (((wr.setCell ⟨w.heap.size + 1, 0, none⟩ (.int .i64 (H 0).k)).setCell ⟨w.heap.size + 1, 1, none⟩ (.int .i64 (H 0).g)).setCell ⟨w.heap.size + 1, 2, none⟩ (H 0).sl) = W9 at *
          obtain ⟨c0, c1, c2⟩ := box3 HS.out
          refine bodyPost_ret (v := .agg #[.int .i64 (H 0).k, .int .i64 (H 0).g, (H 0).sl]) (by simp [results, Try.results22, go_sem, c0, c1, c2]) rfl ⟨(H 0), rfl, by rw [HM.out 0 (by omega), HDE.out]; rfl, HI.out, HBL.out⟩
      · obtain ⟨⟨ac0, ac1, ac2⟩, ⟨ac3, ac4, ac5⟩, ⟨ac6, ac7, ac8⟩, ac9, acx, acy⟩ := arrH_all HC.out.arr
        have hia : (H 0).In _ := HC.out.ins 0 (by omega)
        have hib : (H 1).In _ := HC.out.ins 1 (by omega)
        have hga : Lh.Good (H 0).m := by rw [HM.out 0 (by omega)]; exact (HST4.out 0 (by omega)).good
        have hgb : Lh.Good (H 1).m := by rw [HM.out 1 (by omega)]; exact (HST4.out 1 (by omega)).good
        have HIA := Lib.hid hia
        have HIB := Lib.hid hib
        have HGA := Lib.hid hga
        have HGB := Lib.hid hgb
        clear hia hib hga hgb
        go_upto_region 10 with (go_at_call 41; refine (pair_any (H 0) (H 1) HGA.out HGB.out _ HIA.out HIB.out).mono ?_; rintro e w1 ⟨x1, rfl, hx, hi, hb⟩; have HX1 := Lib.hid hx; have HI1 := Lib.hid hi; have HBb1 := Lib.hid hb; clear hx hi hb)
        obtain ⟨V1, hV⟩ : ∃ W, w1.alloc (.cells #[.int .i64 x1.k, .int .i64 x1.g, x1.sl] 27) = W := ⟨_, rfl⟩
        have bV1 : Below w1.heap.size w1 V1 := by rw [← hV]; exact (Below.refl _ w1).alloc (Nat.le_refl _) _
        have pV1 : V1.heap[w1.heap.size]? = some (.cells #[.int .i64 x1.k, .int .i64 x1.g, x1.sl] 27) := by rw [← hV]; exact heap_alloc_new w1 _
        rw [hV]
        have HVN1 := Lib.hid pV1
        have HIV1 := Lib.hid (HI1.out.grow bV1)
        have HBV1 := Lib.hid (thn HBb1.out bV1)
        clear hV bV1 pV1 HIA HIB HGA HGB
        clear ac0 ac1 ac2 ac3 ac4 ac5 ac6 ac7 ac8 ac9 acx acy
        have hcc := HC.out.grow HBV1.out
        obtain ⟨s0, s1, s2⟩ := box3 hcc.var
        obtain ⟨t0, t1, t2⟩ := box3 HVN1.out
        have fr : ∀ i, V1.frozen? ⟨bV, i, none⟩ = false := fun i => by simp [World.frozen?, hcc.var]
        have hsc := hcc.set x1 HIV1.out
        have HC2' := Lib.hid hsc
        have lv := lt_of hcc.var
        clear hcc hsc
        go_upto_region 11 with (fail)
        obtain ⟨V2, hVN⟩ : ∃ W, (((V1.setCell ⟨bV, 0, none⟩ (.int .i64 x1.k)).setCell ⟨bV, 1, none⟩ (.int .i64 x1.g)).setCell ⟨bV, 2, none⟩ x1.sl) = W := ⟨_, rfl⟩
        have hcn := HC2'.out
        rw [hVN] at hcn ⊢
        have HC2 := Lib.hid hcn
        clear hcn hVN HC2' s0 s1 s2 t0 t1 t2 fr lv
        go_upto_region 16 with (fail)
        go_wp2
        go_loopw [15] (fun p wr => p = .int .i64 2 ∧ Hid (Bc w wr bV H x1)) (fun _ _ => 0)
        case atStart => exact ⟨rfl, HC2⟩
        case round =>
          obtain ⟨rfl, HCR⟩ := hrel
          go_upto_region 21 with (fail)
          have hcc := HCR.out
          obtain ⟨v0, v1, v2⟩ := box3 hcc.var
          obtain ⟨r0, r1, r2⟩ := box3 hcc.res
          have fr : ∀ i, wr.frozen? ⟨w.heap.size + 1, i, none⟩ = false := fun i => by simp [World.frozen?, hcc.res]
          have lr := lt_of hcc.res
          have hs := set3 hcc.res (.int .i64 x1.k) (.int .i64 x1.g) x1.sl
          have hin : x1.In (((wr.setCell ⟨w.heap.size + 1, 0, none⟩ (.int .i64 x1.k)).setCell ⟨w.heap.size + 1, 1, none⟩ (.int .i64 x1.g)).setCell ⟨w.heap.size + 1, 2, none⟩ x1.sl) := in_other hcc.xin hcc.res (by decide) (by decide) (grown3 _ _ _)
          have hbl := below3 hcc.bel (b := w.heap.size + 1) (by omega) (.int .i64 x1.k) (.int .i64 x1.g) x1.sl
          have HS := Lib.hid hs
          have HI := Lib.hid hin
          have HBL := Lib.hid hbl
          clear hs hin hbl hcc
          go_wp2
          generalize (((wr.setCell ⟨w.heap.size + 1, 0, none⟩ (.int .i64 x1.k)).setCell ⟨w.heap.size + 1, 1, none⟩ (.int .i64 x1.g)).setCell ⟨w.heap.size + 1, 2, none⟩ x1.sl) = W9 at *
          obtain ⟨c0, c1, c2⟩ := box3 HS.out
          refine bodyPost_ret (v := .agg #[.int .i64 x1.k, .int .i64 x1.g, x1.sl]) (by simp [results, Try.results22, go_sem, c0, c1, c2]) rfl ⟨x1, rfl, by rw [HX1.out, HM.out 0 (by omega), HM.out 1 (by omega), HDE.out]; rfl, HI.out, HBL.out⟩
      · have e1 : ((d : Int) == 1) = false := by rw [beq_eq_false_iff_ne]; omega
        have e2 : decide ((1 : Int) < (d : Int)) = true := by rw [decide_eq_true_iff]; omega
        obtain ⟨⟨ac0, ac1, ac2⟩, ⟨ac3, ac4, ac5⟩, ⟨ac6, ac7, ac8⟩, ac9, acx, acy⟩ := arrH_all HC.out.arr
        have hia : (H 0).In _ := HC.out.ins 0 (by omega)
        have hib : (H 1).In _ := HC.out.ins 1 (by omega)
        have hga : Lh.Good (H 0).m := by rw [HM.out 0 (by omega)]; exact (HST4.out 0 (by omega)).good
        have hgb : Lh.Good (H 1).m := by rw [HM.out 1 (by omega)]; exact (HST4.out 1 (by omega)).good
        have HIA := Lib.hid hia
        have HIB := Lib.hid hib
        have HGA := Lib.hid hga
        have HGB := Lib.hid hgb
        clear hia hib hga hgb
        go_upto_region 13 with (go_at_call 41; refine (pair_any (H 0) (H 1) HGA.out HGB.out _ HIA.out HIB.out).mono ?_; rintro e w1 ⟨x1, rfl, hx, hi, hb⟩; have HX1 := Lib.hid hx; have HI1 := Lib.hid hi; have HBb1 := Lib.hid hb; clear hx hi hb)
        obtain ⟨V1, hV⟩ : ∃ W, w1.alloc (.cells #[.int .i64 x1.k, .int .i64 x1.g, x1.sl] 27) = W := ⟨_, rfl⟩
        have bV1 : Below w1.heap.size w1 V1 := by rw [← hV]; exact (Below.refl _ w1).alloc (Nat.le_refl _) _
        have pV1 : V1.heap[w1.heap.size]? = some (.cells #[.int .i64 x1.k, .int .i64 x1.g, x1.sl] 27) := by rw [← hV]; exact heap_alloc_new w1 _
        rw [hV]
        have HVN1 := Lib.hid pV1
        have HIV1 := Lib.hid (HI1.out.grow bV1)
        have HBV1 := Lib.hid (thn HBb1.out bV1)
        clear hV bV1 pV1 HIA HIB HGA HGB
        clear ac0 ac1 ac2 ac3 ac4 ac5 ac6 ac7 ac8 ac9 acx acy
        have HC1 := Lib.hid (HC.out.grow HBV1.out)
        obtain ⟨⟨ad0, ad1, ad2⟩, ⟨ad3, ad4, ad5⟩, ⟨ad6, ad7, ad8⟩, ad9, adx, ady⟩ := arrH_all HC1.out.arr
        have hia : (H 2).In _ := HC1.out.ins 2 (by omega)
        have hib : (H 3).In _ := HC1.out.ins 3 (by omega)
        have hga : Lh.Good (H 2).m := by rw [HM.out 2 (by omega)]; exact (HST4.out 2 (by omega)).good
        have hgb : Lh.Good (H 3).m := by rw [HM.out 3 (by omega)]; exact (HST4.out 3 (by omega)).good
        have HIA := Lib.hid hia
        have HIB := Lib.hid hib
        have HGA := Lib.hid hga
        have HGB := Lib.hid hgb
        clear hia hib hga hgb
        go_upto_region 14 with (go_at_call 41; refine (pair_any (H 2) (H 3) HGA.out HGB.out _ HIA.out HIB.out).mono ?_; rintro e w2 ⟨x2, rfl, hx, hi, hb⟩; have HX2 := Lib.hid hx; have HI2 := Lib.hid hi; have HBb2 := Lib.hid hb; clear hx hi hb)
        obtain ⟨V2, hV⟩ : ∃ W, w2.alloc (.cells #[.int .i64 x2.k, .int .i64 x2.g, x2.sl] 27) = W := ⟨_, rfl⟩
        have bV1 : Below w2.heap.size w2 V2 := by rw [← hV]; exact (Below.refl _ w2).alloc (Nat.le_refl _) _
        have pV1 : V2.heap[w2.heap.size]? = some (.cells #[.int .i64 x2.k, .int .i64 x2.g, x2.sl] 27) := by rw [← hV]; exact heap_alloc_new w2 _
        rw [hV]
        have HVN2 := Lib.hid pV1
        have HIV2 := Lib.hid (HI2.out.grow bV1)
        have HBV2 := Lib.hid (thn HBb2.out bV1)
        clear hV bV1 pV1 HIA HIB HGA HGB
        clear ad0 ad1 ad2 ad3 ad4 ad5 ad6 ad7 ad8 ad9 adx ady
        have HC2 := Lib.hid (HC1.out.grow HBV2.out)
        have p9 := (HBV2.out.block _ (lt_of HVN1.out)).trans HVN1.out
        obtain ⟨m0, m1, m2⟩ := box3 p9
        obtain ⟨n0, n1, n2⟩ := box3 HVN2.out
        clear p9
        have hia : x1.In _ := HIV1.out.grow HBV2.out
        have hib : x2.In _ := HIV2.out
        have hga : Lh.Good x1.m := by rw [HX1.out, HM.out 0 (by omega), HM.out 1 (by omega)]; exact HG01.out
        have hgb : Lh.Good x2.m := by rw [HX2.out, HM.out 2 (by omega), HM.out 3 (by omega)]; exact HG23.out
        have HIA := Lib.hid hia
        have HIB := Lib.hid hib
        have HGA := Lib.hid hga
        have HGB := Lib.hid hgb
        clear hia hib hga hgb
        go_upto_region 15 with (go_at_call 41; refine (pair_any x1 x2 HGA.out HGB.out _ HIA.out HIB.out).mono ?_; rintro e w3 ⟨x3, rfl, hx, hi, hb⟩; have HX3 := Lib.hid hx; have HI3 := Lib.hid hi; have HBb3 := Lib.hid hb; clear hx hi hb)
        obtain ⟨V3, hV⟩ : ∃ W, w3.alloc (.cells #[.int .i64 x3.k, .int .i64 x3.g, x3.sl] 27) = W := ⟨_, rfl⟩
        have bV1 : Below w3.heap.size w3 V3 := by rw [← hV]; exact (Below.refl _ w3).alloc (Nat.le_refl _) _
        have pV1 : V3.heap[w3.heap.size]? = some (.cells #[.int .i64 x3.k, .int .i64 x3.g, x3.sl] 27) := by rw [← hV]; exact heap_alloc_new w3 _
        rw [hV]
        have HVN3 := Lib.hid pV1
        have HIV3 := Lib.hid (HI3.out.grow bV1)
        have HBV3 := Lib.hid (thn HBb3.out bV1)
        clear hV bV1 pV1 HIA HIB HGA HGB
        clear m0 m1 m2 n0 n1 n2
        have hcc := HC2.out.grow HBV3.out
        obtain ⟨s0, s1, s2⟩ := box3 hcc.var
        obtain ⟨t0, t1, t2⟩ := box3 HVN3.out
        have fr : ∀ i, V3.frozen? ⟨bV, i, none⟩ = false := fun i => by simp [World.frozen?, hcc.var]
        have hsc := hcc.set x3 HIV3.out
        have HC4' := Lib.hid hsc
        have lv := lt_of hcc.var
        clear hcc hsc
        go_upto_region 16 with (fail)
        obtain ⟨V4, hVN⟩ : ∃ W, (((V3.setCell ⟨bV, 0, none⟩ (.int .i64 x3.k)).setCell ⟨bV, 1, none⟩ (.int .i64 x3.g)).setCell ⟨bV, 2, none⟩ x3.sl) = W := ⟨_, rfl⟩
        have hcn := HC4'.out
        rw [hVN] at hcn ⊢
        have HC4 := Lib.hid hcn
        clear hcn hVN HC4' s0 s1 s2 t0 t1 t2 fr lv
        have hx3 : x3.m = treeM (kOf t.K) (lvT t) 2 := by rw [HX3.out, HX1.out, HX2.out, HM.out 0 (by omega), HM.out 1 (by omega), HM.out 2 (by omega), HM.out 3 (by omega)]; rfl
        have HX33 := Lib.hid hx3
        clear hx3 e1 e2
        go_wp2
        go_loopw [15] (fun p wr => ∃ (i : Nat) (y : Hx), p = .int .i64 (i : Int) ∧ 2 ≤ i ∧ i ≤ d ∧ Hid (y.m = treeM (kOf t.K) (lvT t) i) ∧ Hid (Bc w wr bV H y)) (fun p _ => d - (intOf p).toNat)
        case atStart => exact ⟨2, x3, rfl, Nat.le_refl _, h2, HX33, HC4⟩
        case round =>
          obtain ⟨i, y, rfl, hi2, hid, HY, HCR⟩ := hrel
          by_cases hlt : i < d
          · obtain ⟨⟨ac0, ac1, ac2⟩, ⟨ac3, ac4, ac5⟩, ⟨ac6, ac7, ac8⟩, ac9, acx, acy⟩ := arrH_all HCR.out.arr
            obtain ⟨m0, m1, m2⟩ := box3 HCR.out.var
            have hia : y.In _ := HCR.out.xin
            have hib : (H 0).In _ := HCR.out.ins 0 (by omega)
            have hga : Lh.Good y.m := by rw [HY.out]; exact (HALL.out i (by omega)).2.good
            have hgb : Lh.Good (H 0).m := by rw [HM.out 0 (by omega)]; exact (HST4.out 0 (by omega)).good
            have HIA := Lib.hid hia
            have HIB := Lib.hid hib
            have HGA := Lib.hid hga
            have HGB := Lib.hid hgb
            clear hia hib hga hgb
            go_upto_region 20 with (go_at_call 41; refine (pair_any y (H 0) HGA.out HGB.out _ HIA.out HIB.out).mono ?_; rintro e w5 ⟨x5, rfl, hx, hi, hb⟩; have HX5 := Lib.hid hx; have HI5 := Lib.hid hi; have HBb5 := Lib.hid hb; clear hx hi hb)
            obtain ⟨V5, hV⟩ : ∃ W, w5.alloc (.cells #[.int .i64 x5.k, .int .i64 x5.g, x5.sl] 27) = W := ⟨_, rfl⟩
            have bV1 : Below w5.heap.size w5 V5 := by rw [← hV]; exact (Below.refl _ w5).alloc (Nat.le_refl _) _
            have pV1 : V5.heap[w5.heap.size]? = some (.cells #[.int .i64 x5.k, .int .i64 x5.g, x5.sl] 27) := by rw [← hV]; exact heap_alloc_new w5 _
            rw [hV]
            have HVN5 := Lib.hid pV1
            have HIV5 := Lib.hid (HI5.out.grow bV1)
            have HBV5 := Lib.hid (thn HBb5.out bV1)
            clear hV bV1 pV1 HIA HIB HGA HGB
            clear ac0 ac1 ac2 ac3 ac4 ac5 ac6 ac7 ac8 ac9 acx acy
            clear m0 m1 m2
            have hcc := HCR.out.grow HBV5.out
            obtain ⟨s0, s1, s2⟩ := box3 hcc.var
            obtain ⟨t0, t1, t2⟩ := box3 HVN5.out
            have fr : ∀ i, V5.frozen? ⟨bV, i, none⟩ = false := fun i => by simp [World.frozen?, hcc.var]
            have hsc := hcc.set x5 HIV5.out
            have HSC := Lib.hid hsc
            have lv := lt_of hcc.var
            clear hcc hsc
            go_wp2
            refine ⟨⟨i + 1, x5, by go_num, by omega, hlt, Lib.hid ?_, HSC⟩, by simp [intOf]; omega⟩
            rw [HX5.out, HY.out, HM.out 0 (by omega)]
            obtain ⟨e, rfl⟩ : ∃ e, i = e + 2 := ⟨i - 2, by omega⟩
            rfl
          · have e : i = d := by omega
            subst e
            go_upto_region 21 with (fail)
            have hcc := HCR.out
            obtain ⟨v0, v1, v2⟩ := box3 hcc.var
            obtain ⟨r0, r1, r2⟩ := box3 hcc.res
            have fr : ∀ i, wr.frozen? ⟨w.heap.size + 1, i, none⟩ = false := fun i => by simp [World.frozen?, hcc.res]
            have lr := lt_of hcc.res
            have hs := set3 hcc.res (.int .i64 y.k) (.int .i64 y.g) y.sl
            have hin : y.In (((wr.setCell ⟨w.heap.size + 1, 0, none⟩ (.int .i64 y.k)).setCell ⟨w.heap.size + 1, 1, none⟩ (.int .i64 y.g)).setCell ⟨w.heap.size + 1, 2, none⟩ y.sl) := in_other hcc.xin hcc.res (by decide) (by decide) (grown3 _ _ _)
            have hbl := below3 hcc.bel (b := w.heap.size + 1) (by omega) (.int .i64 y.k) (.int .i64 y.g) y.sl
            have HS := Lib.hid hs
            have HI := Lib.hid hin
            have HBL := Lib.hid hbl
            clear hs hin hbl hcc
            go_wp2
            generalize (((wr.setCell ⟨w.heap.size + 1, 0, none⟩ (.int .i64 y.k)).setCell ⟨w.heap.size + 1, 1, none⟩ (.int .i64 y.g)).setCell ⟨w.heap.size + 1, 2, none⟩ y.sl) = W9 at *
            obtain ⟨c0, c1, c2⟩ := box3 HS.out
            refine bodyPost_ret (v := .agg #[.int .i64 y.k, .int .i64 y.g, y.sl]) (by simp [results, Try.results22, go_sem, c0, c1, c2]) rfl ⟨y, rfl, by rw [HY.out, HDE.out], HI.out, HBL.out⟩

end Go.Proofs.Ytmdknedngiggdaa
end
section
/- A tree out of the frame. -/
namespace Go.Proofs.Ytmdknedngiggdaa
open Go.RowKit Go.Shelf Go.Proofs.Rw Go.Proofs.Lh Go.Proofs.Rf
theorem tr_frame {K d : Int} {A : Fin 4 → Option Addr} {n c : Fin 4 → Nat} {z : Fin 4 → Nat → Nat → Int} {w : World} (wK : (Lit.int IntKind.i64 K).wf = true) (wd : (Lit.int IntKind.u8 d).wf = true) (h : ∀ j : Fin 4, Op.FlatRow [IntKind.u64, IntKind.u64] w (A j) (n j) (c j) (z j)) :
    ∃ t : Tr, TrOk t w ∧ #[Value.int IntKind.i64 K, Value.slice (A 0) (n 0) (c 0), Value.slice (A 1) (n 1) (c 1), Value.slice (A 2) (n 2) (c 2), Value.slice (A 3) (n 3) (c 3), Value.int IntKind.u8 d] = t.cells := by
  have hs := fun j => sp_of_row (h j)
  have hd : 0 ≤ d ∧ d < 256 := by
    simp [Lit.wf, IntKind.min, IntKind.max, IntKind.bits, IntKind.signed] at wd
    omega
  obtain ⟨ds, hds⟩ : ∃ ds : Fin 4 → List Sp, ∀ j, Deeds w (A j) (n j) (c j) (ds j) := ⟨fun j => Classical.choose (hs j), fun j => Classical.choose_spec (hs j)⟩
  have hl : ∀ j, (ds j).length = n j := fun j => (hds j).1
  clear hs
  refine ⟨⟨K, fun i => if hi : i < 4 then A ⟨i, hi⟩ else none, fun i => if hi : i < 4 then c ⟨i, hi⟩ else 0, fun i => if hi : i < 4 then ds ⟨i, hi⟩ else [], d.toNat⟩, ⟨wK, by show d.toNat < 256; omega, fun i hi => ?_⟩, ?_⟩
  · simp only [dif_pos hi]
    rw [hl]
    exact hds ⟨i, hi⟩
  · have e : ((d.toNat : Nat) : Int) = d := by omega
    simp [Tr.cells, Tr.sl, hl, e]
end Go.Proofs.Ytmdknedngiggdaa
end
section
/- What stands in a tree that was built, in plain names. -/
namespace Go.Proofs.Lh
open Go.Proofs.Lm (Sp)
theorem exact_all (k : Nat) (p : Nat → Bool) (hp : ∀ u, p u = true) (ds : List Sp) (j : Nat) (h : j ≤ ds.length) : exactN k p ds j = tot (play k ds j).2 := by
  obtain ⟨us, h1, _, _, h4⟩ := play_units k p ds j h
  rw [← h4, List.countP_eq_length.2 fun a _ => hp a, rep_len h1, tot_eq]
theorem sumT_le {d : Nat} (h : d ≤ 4) {f : Nat → Nat} {B : Nat} (hf : ∀ i, i < 4 → f i ≤ B) : sumT d f ≤ 12 * B := by
  rw [← sumTo_four]
  have := sumTo_le h hf 4 (by omega)
  omega
theorem sumT_congr {d : Nat} {f g : Nat → Nat} (h : ∀ i, i < 4 → f i = g i) : sumT d f = sumT d g := by
  unfold sumT
  rw [h 0 (by omega), h 1 (by omega), h 2 (by omega), h 3 (by omega)]
/-- Two merged: of one of the greatest Gen nothing is told. -/
theorem out_pair {kk d : Nat} {L L1 : Lv} (ha : Good ((kk : Int), (d : Int), L)) (hb : Good ((kk : Int), 0, L1)) (hd : d ≤ 4) (ht : tot L + tot L1 ≤ 4503599627370496) :
    (d = 4 → (outM [] [((kk : Int), (d : Int), L), ((kk : Int), 0, L1)]).1 = 0) ∧ (d < 4 → (outM [] [((kk : Int), (d : Int), L), ((kk : Int), 0, L1)]).2.1 = (d : Int) + 1) ∧ (outM [] [((kk : Int), (d : Int), L), ((kk : Int), 0, L1)]).2.2.length ≤ 60 ∧ tot (outM [] [((kk : Int), (d : Int), L), ((kk : Int), 0, L1)]).2.2 ≤ 4503599627370496 := by
  have hg : gmax [((kk : Int), (d : Int), L), ((kk : Int), 0, L1)] = (d : Int) := by
    rw [gmax_two _ _ ha.gen0]
    show max (d : Int) 0 = _
    omega
  have hlen : (outM [] [((kk : Int), (d : Int), L), ((kk : Int), 0, L1)]).2.2.length ≤ 60 ∧ tot (outM [] [((kk : Int), (d : Int), L), ((kk : Int), 0, L1)]).2.2 ≤ 4503599627370496 := by
    unfold outM
    split
    · rename_i hb0
      have hgd := merge_made hb0 (ms := [((kk : Int), (d : Int), L), ((kk : Int), 0, L1)]) (by
        intro m hm
        simp only [List.mem_cons, List.not_mem_nil, or_false] at hm
        rcases hm with rfl | rfl
        · exact ha
        · exact hb)
      exact ⟨Nat.le_trans hgd.made.len (by omega), hgd.made.small⟩
    · exact ⟨by simp, by decide⟩
  refine ⟨fun e => ?_, fun e => ?_, hlen.1, hlen.2⟩
  · have hbad : badN [] [((kk : Int), (d : Int), L), ((kk : Int), 0, L1)] ≠ 0 := fun h0 => by
      have := (badN_zero h0).2.2.2.1
      rw [hg] at this
      omega
    unfold outM
    rw [if_neg hbad]
  · have hbad : badN [] [((kk : Int), (d : Int), L), ((kk : Int), 0, L1)] = 0 := bad_none (k := kk) (by simp) (by
      intro m hm
      simp only [List.mem_cons, List.not_mem_nil, or_false] at hm
      rcases hm with rfl | rfl <;> rfl) (by rw [hg]; omega) (by unfold totM; simpa using ht)
    unfold outM
    rw [if_pos hbad, hg]
end Go.Proofs.Lh
namespace Go.Proofs.Ytmdknedngiggdaa
open Go.RowKit Go.Shelf Go.Proofs.Rw Go.Proofs.Lh Go.Proofs.Rf

/-- A tree's histogram: its K, Gen and levels, and what really came. -/
structure Stood (t : Tr) (kk d : Nat) (L : Lv) : Prop where
  k2 : 2 ≤ kk
  k31 : kk ≤ 31
  d4 : d ≤ 4
  made : Made kk L
  good : Lh.Good ((kk : Int), (d : Int), L)
  bound : ∀ f g, (kk - 1) * sumT d (exT t f g) ≤ kk * estL (withB f g) L ∧ kk ^ (d + 1) * estL (withB f g) L ≤ (kk + 1) * (kk + 2) ^ d * sumT d (exT t f g)
  never : ∀ f g, sumT d (exT t f g) ≤ sureL (withB f g) 0 L + cutS (withB f g) 0 L
  none : ∀ f g, sumT d (exT t f g) = 0 → estL (withB f g) L = 0
  all : sumT d (exT t 0 1) = tot L
  few : ∀ f g, sumT d (exT t f g) ≤ 263882790666240
  light : tot L ≤ 263882790666240
  one : ∀ i, i < 4 → Lh.Good ((kk : Int), 0, lvT t i) ∧ tot (lvT t i) ≤ 35184372088832
theorem stood {t : Tr} (hl : IsLight t) (L : Lv) (hm : (((kOf t.K : Nat) : Int), ((t.deep % 5 : Nat) : Int), L) = treeM (kOf t.K) (lvT t) (t.deep % 5)) : Stood t (kOf t.K) (t.deep % 5) L := by
  have hk := kOf_le t.K
  obtain ⟨h1, h2⟩ := tree_ok hl
  obtain ⟨-, -, -, -, h3⟩ := tree_st h1 h2
  obtain ⟨-, hs⟩ := h3 (t.deep % 5) (by omega)
  rw [← hm] at hs
  have hst := hs.stands
  rw [show (((t.deep % 5 : Nat) : Int)).toNat = t.deep % 5 from Int.toNat_natCast _] at hst
  have hall : sumT (t.deep % 5) (exT t 0 1) = tot L := by
    have ht : tot L = _ := hs.total
    rw [ht]
    refine sumT_congr fun i _ => ?_
    unfold exT lvT
    exact exact_all _ _ (fun u => by unfold withB; exact decide_eq_true (by omega)) _ _ (by unfold doneN; omega)
  have hfew : ∀ f g, sumT (t.deep % 5) (exT t f g) ≤ 263882790666240 := fun f g => by
    have := sumT_le (d := t.deep % 5) (by omega) (exT_le hl f g)
    omega
  exact ⟨hk.1, hk.2, by omega, hst.made, hs.good, fun f g => hst.bound (with_up f g), fun f g => hst.never (with_up f g), fun f g => hst.none (with_up f g), hall, hfew, by rw [← hall]; exact hfew 0 1, fun i hi => ⟨(h1 i hi).good, h2 i hi⟩⟩
/-- Build, in plain names. -/
theorem built_any (t : Tr) (w : World) (hok : TrOk t w) (hl : IsLight t) : Calls Try.prog 22 #[.agg t.cells] w fun e w' => ∃ (A : Option Addr) (c : Nat) (L : Lv), e = .returned (.agg #[.int .i64 ((kOf t.K : Nat) : Int), .int .i64 ((t.deep % 5 : Nat) : Int), .slice A L.length c]) ∧ Levs w' w'.heap.size (.slice A L.length c) L ∧ Stood t (kOf t.K) (t.deep % 5) L ∧ Below w.heap.size w w' := by
  refine (build_any t w hok hl).mono ?_
  rintro e w' ⟨x, rfl, hm, hin, hb⟩
  obtain ⟨h1, h2⟩ := tree_ok hl
  obtain ⟨-, -, -, -, h3⟩ := tree_st h1 h2
  obtain ⟨hg, hs⟩ := h3 (t.deep % 5) (by omega)
  obtain ⟨k, g, A, c, L⟩ := x
  have hkk := hs.kk
  rw [← hm] at hkk hg
  have e1 : k = ((kOf t.K : Nat) : Int) := hkk
  have e2 : g = ((t.deep % 5 : Nat) : Int) := hg
  subst e1
  subst e2
  exact ⟨A, c, L, rfl, hin, stood hl L hm, hb⟩
end Go.Proofs.Ytmdknedngiggdaa
end
