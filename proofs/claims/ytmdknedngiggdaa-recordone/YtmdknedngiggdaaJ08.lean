/- A region that draws its order, walked by facts, all of it: of each operation one fact on the values and the world; each is shown out of the facts of those that it waits for; a fact lasts over the operations that may come up behind it. Stores, and operations without a slot, are let in. · For regions that call Add and lay what it tells into a new variable: facts that last. · The contract of skylightref06.Made. · Plain mathematics of buckets that are too old: what is dropped, and what stays. -/
import Derived.Test.YtmdknedngiggdaaJ05
import Derived.Test.YtmdknedngiggdaaJ07
import Derived.Test.YtmdknedngiggdaaJ04
section
/-
  A region that draws its order, walked by facts, all of it: of each operation one fact on the values and the world; each is shown out of the facts of those that it waits for; a fact lasts over the operations that may come up behind it. Stores, and operations without a slot, are let in.
-/
namespace Go.Proofs.Rf
open Go Go.RowKit

def dstO (ops : Array Oper) (i : Nat) : Option Nat := (ops[i]?).bind (·.dst)
def putO (ops : Array Oper) (us : Nat → Value) : Nat → Act → Act
  | 0, a => a
  | n + 1, a => (putO ops us n a).put (dstO ops n) (us n)
def upd (us : Nat → Value) (i : Nat) (v : Value) : Nat → Value := fun j => if j = i then v else us j
/-- What a slot held ahead of the region. -/
def initO (ops : Array Oper) (a : Act) (i : Nat) : Value := match dstO ops i with | some d => a.tmps.getD d undef | none => undef

/-- Each operation has a slot of its own, or none; it waits for earlier ones alone. -/
def okB (ops : Array Oper) (size : Nat) : Bool :=
  (List.range ops.size).all fun i =>
    (match dstO ops i with | some d => decide (d < size) && (List.range ops.size).all (fun j => j == i || dstO ops j != some d) | none => true) &&
    ((ops[i]?).map (·.after.all fun e => !Region.binds .any e || decide (e.on < i))).getD false

theorem putO_same {ops : Array Oper} {us vs : Nat → Value} {a : Act} : ∀ n, (∀ j, j < n → us j = vs j ∨ dstO ops j = none) → putO ops us n a = putO ops vs n a
  | 0, _ => rfl
  | n + 1, h => by
    rw [putO, putO, putO_same n (fun j hj => h j (by omega))]
    rcases h n (by omega) with e | e
    · rw [e]
    · rw [e]; rfl

theorem putO_put {ops : Array Oper} {us : Nat → Value} {a : Act} {i : Nat} {v : Value} : ∀ n, i < n → (∀ d, dstO ops i = some d → ∀ j, j < n → j ≠ i → dstO ops j ≠ some d) →
    (putO ops us n a).put (dstO ops i) v = putO ops (upd us i v) n a
  | 0, h, _ => absurd h (by omega)
  | n + 1, h, hd => by
    rw [putO, putO]
    by_cases e : i = n
    · subst e
      rw [putO_same (us := us) (vs := upd us i v) i (fun j hj => .inl (by simp [upd]; omega)), show upd us i v i = v by simp [upd]]
      cases dstO ops i with
      | none => rfl
      | some d => rw [put_put]
    · have hu : upd us i v n = us n := by simp [upd]; omega
      rw [Act.put_comm _ _ _ (fun d h1 h2 => by first | exact hd d h2 n (by omega) (by omega) h1 | exact hd d h1 n (by omega) (by omega) h2), putO_put n (by omega) (fun d hdd j hj => hd d hdd j (by omega)), hu]

theorem putO_start {ops : Array Oper} {a : Act} : ∀ n, (∀ j d, j < n → dstO ops j = some d → d < a.tmps.size) → putO ops (initO ops a) n a = a
  | 0, _ => rfl
  | n + 1, h => by
    rw [putO, putO_start n (fun j d hj => h j d (by omega))]
    unfold initO
    cases hd : dstO ops n with
    | none => rfl
    | some d => exact put_get a d (h n d (by omega) hd)

section
variable {P : Program} {ops : Array Oper} {Q : Exit → Act → World → Prop} {a0 : Act} {w0 : World}

theorem facts_all (G : World → Prop) (F : Nat → (Nat → Value) → World → Prop) (E : Nat → World → World → Prop) (hB : okB ops a0.tmps.size = true)
    (hloc : ∀ i us us' W, (∀ j, (j = i ∨ waits ops i j = true) → us j = us' j) → F i us W → F i us' W)
    (hst : ∀ i j us W W', i ≠ j → waits ops i j = false → i < ops.size → j < ops.size → E j W W' → F i us W → F i us W')
    (hG : ∀ j W W', E j W W' → G W → G W')
    (hop : ∀ i, i < ops.size → ∀ (us : Nat → Value) (W : World), G W → (∀ j, waits ops i j = true → F j us W) → (∀ j, waits ops j i = true → us j = initO ops a0 j) →
      wpOp P ops Q i (fun a' W' => ∃ v, a' = (putO ops us ops.size a0).put (dstO ops i) v ∧ E i W W' ∧ F i (upd us i v) W') (putO ops us ops.size a0) W)
    (hend : ∀ (us : Nat → Value) (W : World), G W → (∀ i, i < ops.size → F i us W) → Q .normal (putO ops us ops.size a0) W) :
    ∀ (m : Nat) (listed : Array Bool) (us : Nat → Value) (W : World), listed.size = ops.size →
      (∀ j oj, ops[j]? = some oj → listed.getD j false = true → ∀ e ∈ oj.after, Region.binds .any e = true → listed.getD e.on false = true) →
      (∀ j, j < ops.size → listed.getD j false = false → us j = initO ops a0 j) → unl (fun i => listed.getD i false) ops.size = m → G W → (∀ i, i < ops.size → listed.getD i false = true → F i us W) →
      wpAny P .any ops Q m listed (putO ops us ops.size a0) W := by
  have hB' : ∀ i, i < ops.size → (∀ d, dstO ops i = some d → d < a0.tmps.size ∧ ∀ j, j < ops.size → j ≠ i → dstO ops j ≠ some d) ∧ ∃ o, ops[i]? = some o ∧ ∀ e ∈ o.after, Region.binds .any e = true → e.on < i := by
    intro i hi
    have h := List.all_eq_true.1 hB i (List.mem_range.2 hi)
    simp only [Bool.and_eq_true] at h
    refine ⟨fun d hd => ?_, ?_⟩
    · rw [hd] at h
      simp only [Bool.and_eq_true, decide_eq_true_eq] at h
      refine ⟨h.1.1, fun j hj hne => ?_⟩
      have := List.all_eq_true.1 h.1.2 j (List.mem_range.2 hj)
      simpa [hne] using this
    · have h2 := h.2
      cases ho : ops[i]? with
      | none => rw [ho] at h2; simp at h2
      | some o =>
        rw [ho] at h2
        simp only [Option.map_some, Option.getD_some, Array.all_eq_true_iff_forall_mem, Bool.or_eq_true, Bool.not_eq_true', decide_eq_true_eq] at h2
        exact ⟨o, rfl, fun e he hb => (h2 e he).resolve_left (by simp [hb])⟩
  have hsz : ∀ {l : Array Bool} {j : Nat}, l.size = ops.size → j < ops.size → l.getD j true = l.getD j false := by
    intro l j hl hj
    simp [Array.getD, hl, hj]
  intro m
  induction m with
  | zero =>
    intro listed us W hl hcl hin hu hg hf
    have hall := unl_zero ops.size hu
    refine ⟨?_, hend us W hg (fun i hi => hf i hi (hall i hi))⟩
    cases hr : Region.ready .any ops listed with
    | nil => rfl
    | cons i r =>
      have hi : i ∈ Region.ready .any ops listed := by rw [hr]; simp
      rw [mem_ready] at hi
      obtain ⟨h1, o, ho, _⟩ := hi
      have hilt : i < ops.size := (Array.getElem?_eq_some_iff.1 ho).1
      rw [hsz hl hilt, hall i hilt] at h1
      cases h1
  | succ m ih =>
    intro listed us W hl hcl hin hu hg hf
    obtain ⟨i0, hi0, hi0f, hi0l⟩ := exists_least (f := fun i => listed.getD i false) ops.size (by omega)
    refine ⟨fun h0 => ?_, fun i hi => ?_⟩
    · obtain ⟨_, o, ho, hon⟩ := hB' i0 hi0
      have : i0 ∈ Region.ready .any ops listed := by
        rw [mem_ready]
        exact ⟨by rw [hsz hl hi0]; exact hi0f, o, ho, fun e he hb => hi0l e.on (hon e he hb)⟩
      rw [h0] at this
      cases this
    · rw [mem_ready] at hi
      obtain ⟨hi1, o, ho, hdep⟩ := hi
      have hilt : i < ops.size := (Array.getElem?_eq_some_iff.1 ho).1
      have hfi : listed.getD i false = false := by rw [← hsz hl hilt]; exact hi1
      have hwl : ∀ j, waits ops i j = true → j < ops.size ∧ listed.getD j false = true := by
        intro j hw
        obtain ⟨o', ho', e, he, hb, hon⟩ := waits_spec hw
        rw [ho] at ho'; cases ho'
        subst hon
        have h1 := (hB' i hilt).2
        obtain ⟨o2, ho2, h2⟩ := h1
        rw [ho] at ho2; cases ho2
        exact ⟨Nat.lt_trans (h2 e he hb) hilt, hdep e he hb⟩
      have hnw : ∀ j, j < ops.size → waits ops j i = true → listed.getD j false = false := by
        intro j hj hw
        obtain ⟨oj, hoj, e, he, hb, hon⟩ := waits_spec hw
        cases hlj : listed.getD j false with
        | false => rfl
        | true =>
          have := hcl j oj hoj hlj e he hb
          rw [hon, hfi] at this
          cases this
      refine wpOp_mono ?_ (hop i hilt us W hg (fun j hw => hf j (hwl j hw).1 (hwl j hw).2) (fun j hw => ?_))
      · rintro a' W' ⟨v, rfl, hE, hFv⟩
        rw [putO_put ops.size hilt (fun d hd j hj hne => ((hB' i hilt).1 d hd).2 j hj hne)]
        refine ih _ _ W' (by simp [hl]) ?_ ?_ ?_ (hG i W W' hE hg) ?_
        · intro j oj hj hjl e he hb
          by_cases hji : i = j
          · subst hji
            rw [ho] at hj; cases hj
            exact getD_set_true (hdep e he hb)
          · rw [getD_set_ne false hji] at hjl
            exact getD_set_true (hcl j oj hj hjl e he hb)
        · intro j hj hjl
          by_cases hji : i = j
          · subst hji
            simp [Array.getD, hl, hilt] at hjl
          · rw [getD_set_ne false hji] at hjl
            rw [show upd us i v j = us j by simp [upd]; omega]
            exact hin j hj hjl
        · have := unl_set (f := fun j => listed.getD j false) (g := fun j => (listed.setIfInBounds i true).getD j false) (i := i) hfi (by simp [Array.getD, hl, hilt]) (fun j hj => getD_set_ne false (Ne.symm hj)) ops.size hilt
          omega
        · intro j hj hjl
          by_cases hji : j = i
          · subst hji; exact hFv
          · rw [getD_set_ne false (Ne.symm hji)] at hjl
            have hwji : waits ops j i = false := by
              cases hw : waits ops j i with
              | false => rfl
              | true => have := hnw j hj hw; rw [hjl] at this; cases this
            refine hloc j us _ W' (fun k hk => ?_) (hst j i us W W' hji hwji hj hilt hE (hf j hj hjl))
            have hki : k ≠ i := by
              rintro rfl
              rcases hk with rfl | hk
              · exact hji rfl
              · rw [hk] at hwji; cases hwji
            simp [upd, hki]
      · have hj : j < ops.size := by
          obtain ⟨oj, hoj, _⟩ := waits_spec hw
          exact (Array.getElem?_eq_some_iff.1 hoj).1
        exact hin j hj (hnw j hj hw)

theorem unl_none {size : Nat} : ∀ k, k ≤ size → unl (fun i => (Array.replicate size false).getD i false) k = k
  | 0, _ => rfl
  | k + 1, h => by
    have e : (Array.replicate size false).getD k false = false := by simp [Array.getD, show k < size by omega]
    rw [unl, unl_none k (by omega), e]; simp
end

/-- The law for a region of code: all its operations by facts. 'fr us': the frame with the values us in the operations' slots. -/
theorem region_all {P : Program} {Q : Exit → Act → World → Prop} {id : Nat} {a : Act} {w : World} {l : List Oper} {fr : (Nat → Value) → Act} (F : Nat → (Nat → Value) → World → Prop) (E : Nat → World → World → Prop) (G : World → Prop)
    (hm : P.follows .mixedOrders = true) (hB : okB l.toArray a.tmps.size = true)
    (hfr : ∀ us, putO l.toArray us l.length a = fr us)
    (hloc : ∀ i us us' W, (∀ j, (j = i ∨ waits l.toArray i j = true) → us j = us' j) → F i us W → F i us' W)
    (hst : ∀ i j us W W', i ≠ j → waits l.toArray i j = false → i < l.length → j < l.length → E j W W' → F i us W → F i us W')
    (hG0 : G w.drew) (hG : ∀ j W W', E j W W' → G W → G W')
    (hop : ∀ i, i < l.length → ∀ (us : Nat → Value) (W : World), G W → (∀ j, waits l.toArray i j = true → F j us W) → (∀ j, waits l.toArray j i = true → us j = initO l.toArray a j) →
      wpOp P l.toArray Q i (fun a' W' => ∃ v, a' = (fr us).put (dstO l.toArray i) v ∧ E i W W' ∧ F i (upd us i v) W') (fr us) W)
    (hend : ∀ (us : Nat → Value) (W : World), G W → (∀ i, i < l.length → F i us W) → Q .normal (fr us) W) :
    (Code.region id l.toArray true).wp P Q a w := by
  refine wp_region_any hm ?_
  have hs : l.toArray.size = l.length := by simp
  have hd : ∀ j d, j < l.length → dstO l.toArray j = some d → d < a.tmps.size := by
    intro j d hj hd
    have h := List.all_eq_true.1 hB j (List.mem_range.2 (by rw [hs]; exact hj))
    simp only [Bool.and_eq_true] at h
    rw [hd] at h
    simp only [Bool.and_eq_true, decide_eq_true_eq] at h
    exact h.1.1
  have := facts_all (P := P) (ops := l.toArray) (Q := Q) (a0 := a) G F E hB hloc (fun i j us W W' h1 h2 h3 h4 => hst i j us W W' h1 h2 (by rw [← hs]; exact h3) (by rw [← hs]; exact h4)) hG
    (fun i hi us W hg hw hq => by rw [hs, hfr]; exact hop i (by rw [← hs]; exact hi) us W hg hw hq)
    (fun us W hg hf => by rw [hs, hfr]; exact hend us W hg (fun i hi => hf i (by rw [hs]; exact hi)))
    l.toArray.size (Array.replicate l.toArray.size false) (initO l.toArray a) w.drew (by simp)
    (fun j oj _ hl => by simp [Array.getD] at hl) (fun _ _ _ => rfl) (unl_none _ (Nat.le_refl _)) hG0 (fun i _ hl => by simp [Array.getD] at hl)
  rw [hs, putO_start l.length hd] at this
  rw [hs]
  exact this

section
variable {P : Program} {ops : Array Oper} {Q : Exit → Act → World → Prop} {a : Act} {W : World} {i : Nat} {o : Oper} {E : World → Prop} {F : Value → World → Prop}

/-- An operation that yields a value. -/
theorem all_value (hi : ops[i]? = some o) (hw : Region.wanted o (yielded ops a.tmps) = true) (v : Value) (W' : World) (hrun : (execOp a.eval o).run P W = .ok (.value v) W') (hE : E W') (hF : F v W') :
    wpOp P ops Q i (fun a' W' => ∃ v, a' = a.put (dstO ops i) v ∧ E W' ∧ F v W') a W := by
  unfold wpOp
  have hd : dstO ops i = o.dst := by simp [dstO, hi]
  simp only [hi, hw, if_true]
  refine .inl ?_
  unfold Oper.wp
  rw [hrun, Oper.upon_value, hd]
  exact ⟨v, rfl, hE, hF⟩

/-- An operation that hands nothing on (a store). -/
theorem all_skip (hi : ops[i]? = some o) (hw : Region.wanted o (yielded ops a.tmps) = true) (W' : World) (hrun : (execOp a.eval o).run P W = .ok .skip W') (hE : E W') (hF : F undef W') :
    wpOp P ops Q i (fun a' W' => ∃ v, a' = a.put (dstO ops i) v ∧ E W' ∧ F v W') a W := by
  unfold wpOp
  have hd : dstO ops i = o.dst := by simp [dstO, hi]
  simp only [hi, hw, if_true]
  refine .inl ?_
  unfold Oper.wp
  rw [hrun]
  unfold Oper.upon
  rw [hd]
  exact ⟨undef, rfl, hE, hF⟩

/-- An operation that calls. -/
theorem all_call (hi : ops[i]? = some o) (hw : Region.wanted o (yielded ops a.tmps) = true) (f : FuncId) (args : Array Value) (hrun : (execOp a.eval o).run P W = .ok (.enter f args) W)
    (hc : Calls P f args W fun e W' => ∃ v, e = .returned v ∧ E W' ∧ F v W') :
    wpOp P ops Q i (fun a' W' => ∃ v, a' = a.put (dstO ops i) v ∧ E W' ∧ F v W') a W := by
  unfold wpOp
  have hd : dstO ops i = o.dst := by simp [dstO, hi]
  simp only [hi, hw, if_true]
  refine .inl ?_
  unfold Oper.wp
  rw [hrun, Oper.upon_enter]
  refine hc.mono ?_
  rintro e W' ⟨v, rfl, hG, hF⟩
  exact ⟨v, by rw [hd], hG, hF⟩

/-- An operation that its guard passes over. -/
theorem all_off (hi : ops[i]? = some o) (hw : Region.wanted o (yielded ops a.tmps) = false) (hE : E W) (hF : F undef W) :
    wpOp P ops Q i (fun a' W' => ∃ v, a' = a.put (dstO ops i) v ∧ E W' ∧ F v W') a W := by
  unfold wpOp
  have hd : dstO ops i = o.dst := by simp [dstO, hi]
  simp only [hi, hw, hd]
  exact ⟨undef, rfl, hE, hF⟩
end

end Go.Proofs.Rf
end
section
/- For regions that call Add and lay what it tells into a new variable: facts that last. -/
namespace Go.Proofs.Ytmdknedngiggdaa
open Go.RowKit Go.Shelf Go.Proofs.Rw Go.Proofs.Lh Go.Proofs.Rf

/-- Three cells of a new block of type T are written. -/
def St3 (T : TypeId) (B : Nat) (W W' : World) : Prop :=
  ∃ (p : Nat) (x y z x' y' z' : Value), B ≤ p ∧ W.heap[p]? = some (.cells #[x, y, z] T) ∧ W'.heap[p]? = some (.cells #[x', y', z'] T) ∧ W.grownBy W' (some p)
/-- What operation j of the region does; s is the store's number. -/
def Ea (T : TypeId) (B s j : Nat) (W W' : World) : Prop := Grows W W' ∨ (j = s ∧ St3 T B W W')
theorem Ea.below {T : TypeId} {B s j : Nat} {w W W' : World} (h : Ea T B s j W W') (hg : Below B w W) (hB : B ≤ W.heap.size) : Below B w W' := by
  rcases h with h | ⟨_, p, x, y, z, x', y', z', hp, _, _, hgr⟩
  · exact hg.trans (Below.mono h hB)
  · exact hg.grown hgr hB fun k e => by cases e; exact hp
theorem levs_ea {T : TypeId} (h1 : T ≠ 65) (h2 : T ≠ 73) {B s j : Nat} {W W' : World} (h : Ea T B s j W W') {v : Value} {ls : Lv} (hL : Levs W W.heap.size v ls) : Levs W' W'.heap.size v ls := by
  rcases h with h | ⟨_, p, x, y, z, x', y', z', _, hp, _, hgr⟩
  · exact hL.grow h
  · have ht : Ty W T p := ⟨_, _, hp⟩
    exact hL.other hgr fun b e => by
      cases e
      exact ⟨fun h => Ty.ne ht h h1 rfl, fun h => Ty.ne ht h h2 rfl⟩

/-- What Add tells, as a value. -/
def Tp (K : Int) (C : Int) (R : Lv) (u : Value) (W : World) : Prop := ∃ (A : Option Addr) (c : Nat), u = .tuple #[.agg #[.int .i64 K, .int .i64 0, .slice A R.length c], .int .i64 C] ∧ Levs W W.heap.size (.slice A R.length c) R
def Hp (K : Int) (R : Lv) (u : Value) (W : World) : Prop := ∃ (A : Option Addr) (c : Nat), u = .agg #[.int .i64 K, .int .i64 0, .slice A R.length c] ∧ Levs W W.heap.size (.slice A R.length c) R
/-- A new variable. -/
def Nw3 (T : TypeId) (B : Nat) (u : Value) (W : World) : Prop := ∃ (p : Nat) (x y z : Value), u = .pointer (some ⟨p, 0, none⟩) ∧ B ≤ p ∧ W.heap[p]? = some (.cells #[x, y, z] T)
/-- What Add told lies in it. -/
def Yb3 (T : TypeId) (B : Nat) (K : Int) (R : Lv) (u : Value) (W : World) : Prop := ∃ (p : Nat) (A : Option Addr) (c : Nat), u = .pointer (some ⟨p, 0, none⟩) ∧ B ≤ p ∧ W.heap[p]? = some (.cells #[.int .i64 K, .int .i64 0, .slice A R.length c] T) ∧ Levs W W.heap.size (.slice A R.length c) R

theorem Tp.ea {T : TypeId} (h1 : T ≠ 65) (h2 : T ≠ 73) {B s j : Nat} {W W' : World} (h : Ea T B s j W W') {K C : Int} {R : Lv} {u : Value} (hf : Tp K C R u W) : Tp K C R u W' := by
  obtain ⟨A, c, a, b⟩ := hf
  exact ⟨A, c, a, levs_ea h1 h2 h b⟩
theorem Hp.ea {T : TypeId} (h1 : T ≠ 65) (h2 : T ≠ 73) {B s j : Nat} {W W' : World} (h : Ea T B s j W W') {K : Int} {R : Lv} {u : Value} (hf : Hp K R u W) : Hp K R u W' := by
  obtain ⟨A, c, a, b⟩ := hf
  exact ⟨A, c, a, levs_ea h1 h2 h b⟩
theorem Nw3.ea {T : TypeId} {B s j : Nat} {W W' : World} (h : Ea T B s j W W') {u : Value} (hf : Nw3 T B u W) : Nw3 T B u W' := by
  obtain ⟨p, x, y, z, h3, h4, h5⟩ := hf
  rcases h with h | ⟨_, p', a, b, c, a', b', c', hp, hq, hq', hgr⟩
  · exact ⟨p, x, y, z, h3, h4, (Below.block h p (lt_of h5)).trans h5⟩
  · by_cases e : p = p'
    · subst e
      exact ⟨p, a', b', c', h3, h4, hq'⟩
    · exact ⟨p, x, y, z, h3, h4, (hgr.block p (lt_of h5) (by simpa using e)).trans h5⟩
theorem Yb3.ea {T : TypeId} {B s j : Nat} {W W' : World} (h : Ea T B s j W W') (hj : j ≠ s) {K : Int} {R : Lv} {u : Value} (hf : Yb3 T B K R u W) : Yb3 T B K R u W' := by
  obtain ⟨p, A, c, h3, h4, h5, h6⟩ := hf
  rcases h with h | ⟨e, _⟩
  · exact ⟨p, A, c, h3, h4, (Below.block h p (lt_of h5)).trans h5, h6.grow h⟩
  · exact absurd e hj

/-- The store. -/
theorem st3_set {T : TypeId} {B p : Nat} {W : World} {x y z : Value} (hp : B ≤ p) (h : W.heap[p]? = some (.cells #[x, y, z] T)) (x' y' z' : Value) : St3 T B W (((W.setCell ⟨p, 0, none⟩ x').setCell ⟨p, 1, none⟩ y').setCell ⟨p, 2, none⟩ z') :=
  ⟨p, x, y, z, x', y', z', hp, h, set3 h x' y' z', grown3 x' y' z'⟩
/-- A variable of a histogram is written: levels stay. -/
theorem levs_set3 {T : TypeId} (h1 : T ≠ 65) (h2 : T ≠ 73) {p : Nat} {W : World} {x y z : Value} (h : W.heap[p]? = some (.cells #[x, y, z] T)) (x' y' z' : Value) {v : Value} {ls : Lv} (hL : Levs W W.heap.size v ls) :
    Levs (((W.setCell ⟨p, 0, none⟩ x').setCell ⟨p, 1, none⟩ y').setCell ⟨p, 2, none⟩ z') (((W.setCell ⟨p, 0, none⟩ x').setCell ⟨p, 1, none⟩ y').setCell ⟨p, 2, none⟩ z').heap.size v ls :=
  levs_ea h1 h2 (B := 0) (s := 0) (j := 0) (.inr ⟨rfl, st3_set (Nat.zero_le _) h x' y' z'⟩) hL
theorem keep3 {p q : Nat} {W : World} (hne : q ≠ p) (x' y' z' : Value) : (((W.setCell ⟨p, 0, none⟩ x').setCell ⟨p, 1, none⟩ y').setCell ⟨p, 2, none⟩ z').heap[q]? = W.heap[q]? := by
  rw [Below.heap_setCell _ _ _ _ hne, Below.heap_setCell _ _ _ _ hne, Below.heap_setCell _ _ _ _ hne]

end Go.Proofs.Ytmdknedngiggdaa
end
section
/- The contract of skylightref06.Made. -/
namespace Go.Proofs.Ytmdknedngiggdaa
open Go.RowKit Go.Shelf Go.Proofs.Rw Go.Proofs.Lh Go.Proofs.Rf

/-- The K that a law takes. -/
def kOf (k : Int) : Nat := (2 + max k 0 % 30).toNat
theorem kOf_eq (k : Int) : ((kOf k : Nat) : Int) = 2 + max k 0 % 30 := by unfold kOf; omega
theorem kOf_le (k : Int) : 2 ≤ kOf k ∧ kOf k ≤ 31 := by unfold kOf; omega
/-- How many deeds are done. -/
def doneN (ds : List Sp) : Nat := min ds.length 30

/-- Deeds in memory. -/
def Deeds (w : World) (A : Option Addr) (n c : Nat) (ds : List Sp) : Prop := ds.length = n ∧ Lies spL w w.heap.size (.slice A n c) ds ∧ ∀ x ∈ ds, x.1 < 18446744073709551616 ∧ x.2 < 18446744073709551616
theorem Deeds.grow {w w' : World} {A : Option Addr} {n c : Nat} {ds : List Sp} (h : Deeds w A n c ds) (hb : Below w.heap.size w w') : Deeds w' A n c ds := ⟨h.1, h.2.1.grow hb, h.2.2⟩

set_option maxRecDepth 100000 in
set_option maxHeartbeats 4000000 in
theorem rmade_any (k : Int) (k0 : -9223372036854775808 ≤ k) (k1 : k ≤ 9223372036854775807) (ds : List Sp) (w : World) (Ad : Option Addr) (nd cd : Nat) (hD : Deeds w Ad nd cd ds) :
    Calls Try.prog 24 #[.int .i64 k, .slice Ad nd cd] w fun e w' => ∃ A c, e = .returned (hv (kOf k) 0 (.slice A (play (kOf k) ds (doneN ds)).2.length c)) ∧ Levs w' w'.heap.size (.slice A (play (kOf k) ds (doneN ds)).2.length c) (play (kOf k) ds (doneN ds)).2 ∧ Below w.heap.size w w' := by
  obtain ⟨kk, hkk⟩ : ∃ kk, kOf k = kk := ⟨_, rfl⟩
  have hke := kOf_eq k
  have hkl := kOf_le k
  rw [hkk] at hke hkl ⊢
  have HKE := Lib.hid hke
  have HD := Lib.hid hD
  clear hkk hke hD
  obtain ⟨W0, hW0, hsz, p0, p1, hB0⟩ := heap_two w (.cells #[.int .i64 0, .int .i64 0, .slice none 0 0] 27) (.cells #[.int .i64 (kk : Int), .int .i64 0, .slice none 0 0] 27)
  have HW0 := Lib.hid hW0
  have HB0 := Lib.hid hB0
  have P0 := Lib.hid p0
  have P1 := Lib.hid p1
  have HSZ := Lib.hid hsz
  clear hW0 hB0 p0 p1 hsz
  go_enter Try.func24, Try.ntmps24
  go_upto_region 1 with (fail)
  go_cut [5] from 10 to 14 (fun s5 wx => s5 = .pointer (some ⟨w.heap.size + 1, 0, none⟩) ∧ W0 = wx)
  case first =>
    by_cases h : 0 ≤ k
    · go_wp2
      go_meet
      case rel =>
        refine ⟨rfl, ?_⟩
        rw [HW0.out, show (2 + k % 30 : Int) = (kk : Int) by have := HKE.out; rw [this, Int.max_eq_left h]]
    · go_wp2
      go_meet
      case rel =>
        refine ⟨rfl, ?_⟩
        have e : (kk : Int) = 2 := by have := HKE.out; rw [this]; omega
        rw [HW0.out, e]
  case rest =>
    obtain ⟨rfl, rfl⟩ := hcut
    clear HW0 HKE
    go_wp2
    go_loopw [6, 7] (fun s6 s7 wr => ∃ (j : Nat) (A : Option Addr) (c : Nat), s7 = .int .i64 (j : Int) ∧ s6 = .int .u64 ((play kk ds j).1 : Int) ∧ j ≤ 30 ∧ j ≤ nd ∧ wr.heap[w.heap.size + 1]? = some (.cells #[.int .i64 (kk : Int), .int .i64 0, .slice A (play kk ds j).2.length c] 27) ∧ Levs wr wr.heap.size (.slice A (play kk ds j).2.length c) (play kk ds j).2 ∧ Below (w.heap.size + 1) W0 wr) (fun _ s7 _ => 30 - (intOf s7).toNat)
    case atStart =>
      refine ⟨0, none, 0, rfl, ?_, by omega, Nat.zero_le _, ?_, ?_, Below.refl _ _⟩
      · rw [play_zero]
        rfl
      · rw [play_zero]
        exact P1.out
      · rw [play_zero]
        exact Levs.nil
    case round =>
      obtain ⟨j, A, c, rfl, rfl, hj30, hjn, hbx, hL, hbel⟩ := hrel
      have hbw : Below w.heap.size w wr := HB0.out.trans (hbel.mono (by omega))
      have hdl := HD.out.1
      have hmd := play_made (k := kk) hkl.1 (by omega) ds j (by omega)
      have htk := play_tick kk ds j (by omega)
      obtain ⟨tk0, htk0⟩ : ∃ t, (play kk ds j).1 = t := ⟨_, rfl⟩
      obtain ⟨ls, hls⟩ : ∃ l, (play kk ds j).2 = l := ⟨_, rfl⟩
      obtain ⟨N, hN⟩ : ∃ n, ls.length = n := ⟨_, rfl⟩
      rw [htk0] at htk ⊢
      rw [hls, hN] at hbx hL
      rw [hls] at hmd
      obtain ⟨x0, x1, x2⟩ := box3 hbx
      have hlx := lt_of hbx
      by_cases hlt : j < nd ∧ j < 30
      · have hdeed := (HD.out.grow hbw)
        obtain ⟨bd, od, rfl, hbd, -, hcd⟩ := sp_at hdeed.2.1 (by omega)
        obtain ⟨d0, d1⟩ := hcd j (by omega)
        have hin := hdeed.2.2 (ds[j]'(by omega)) (List.getElem_mem _)
        have hps := play_succ kk ds j (by omega)
        obtain ⟨x, hx⟩ : ∃ x, ds[j]'(by omega) = x := ⟨_, rfl⟩
        rw [hx] at d0 d1 hin hps
        obtain ⟨gp, hgp⟩ : ∃ g, x.1 = g := ⟨_, rfl⟩
        obtain ⟨wt, hwt⟩ : ∃ g, x.2 = g := ⟨_, rfl⟩
        rw [hgp] at d0 hin
        rw [hwt] at d1 hin
        obtain ⟨tk, htkk⟩ : ∃ t, tk0 + gp % 1000 = t := ⟨_, rfl⟩
        have htk2 : (play kk ds (j + 1)).1 = tk := by rw [hps, step_tick, htk0, hgp, htkk]
        have hlv2 : (play kk ds (j + 1)).2 = if code ls tk wt = 0 then addW kk ls tk wt else ls := by rw [hps, step_levs, htk0, hls, hgp, hwt, htkk]
        obtain ⟨C, hC⟩ : ∃ C : Int, ((code ls tk wt : Nat) : Int) = C := ⟨_, rfl⟩
        obtain ⟨KO, hKO⟩ : ∃ K, outK kk ls tk wt = K := ⟨_, rfl⟩
        obtain ⟨R, hRR⟩ : ∃ R, outL kk ls tk wt = R := ⟨_, rfl⟩
        have hok : C = 0 → KO = (kk : Int) ∧ R = (play kk ds (j + 1)).2 := fun e => by
          have hc : code ls tk wt = 0 := by omega
          rw [hlv2, if_pos hc, ← hKO, ← hRR]
          unfold outK outL
          rw [if_pos hc, if_pos hc]
          exact ⟨rfl, rfl⟩
        have hno : C ≠ 0 → (play kk ds (j + 1)).2 = ls := fun e => by rw [hlv2, if_neg (by omega)]
        have hadd : ∀ W, Below wr.heap.size wr W → Calls Try.prog 46 #[.agg #[.int .i64 (kk : Int), .int .i64 0, .slice A N c], .int .u64 (tk : Int), .int .u64 (wt : Int)] W fun e w' => ∃ A' c', e = .returned (.tuple #[.agg #[.int .i64 KO, .int .i64 0, .slice A' R.length c'], .int .i64 C]) ∧ Levs w' w'.heap.size (.slice A' R.length c') R ∧ Below W.heap.size W w' := by
          intro W hW
          have := radd_any kk ls hmd tk wt (by omega) W A c (by rw [hN]; exact hL.grow hW)
          rw [hC, hKO, hRR, hN] at this
          exact this
        have HOK := Lib.hid hok
        have HNO := Lib.hid hno
        have HADD := Lib.hid hadd
        have HTK := Lib.hid htk2
        have HLV := Lib.hid hL
        have HBX := Lib.hid hbx
        have HBEL := Lib.hid hbel
        have HN := Lib.hid hN
        have H0 := Lib.hid x0
        have H1 := Lib.hid x1
        have H2 := Lib.hid x2
        have HLH := Lib.hid hlx
        have HLD := Lib.hid hbd
        have HD0 := Lib.hid d0
        have HD1 := Lib.hid d1
        have HTT := Lib.hid htkk
        have hjn : j + 1 ≤ nd := by omega
        have hj30 : j + 1 ≤ 30 := by omega
        have hjI : (j : Int) < (nd : Int) := by omega
        have g1 : decide (j < nd) = true := by simp; omega
        have g2 : decide ((j : Int) < 30) = true := by simp; omega
        have bt : (tk0 : Int) + (gp : Int) % 1000 ≤ 18446744073709551615 := by omega
        clear hok hno hadd htk2 hL hbx hbel hbw hN x0 x1 x2 d1 hcd hdeed hps hlv2 hC hKO hRR hx hgp hwt hin htkk hmd hls htk0 hdl
        go_upto_region 7 with (fail)
        rw [show (tk0 : Int) + (gp : Int) % 1000 = (tk : Int) by have := HTT.out; omega]
        clear g1 g2 bt d0
        refine region_all (fr := ?frA) (fun i us W => match i with
            | 0 => us 0 = .agg #[.int .i64 (kk : Int), .int .i64 0, .slice A N c]
            | 1 => us 1 = .int .u64 (tk : Int)
            | 2 => us 2 = .slice (some ⟨bd, od, none⟩) nd cd
            | 3 => us 3 = .int .i64 (j : Int)
            | 4 => us 4 = .pointer (some ⟨bd, od + j * 2, none⟩)
            | 5 => us 5 = .pointer (some ⟨bd, od + j * 2 + 1, none⟩)
            | 6 => us 6 = .int .u64 (wt : Int)
            | 7 => Tp KO C R (us 7) W
            | 8 => Tp KO C R (us 8) W
            | 9 => Hp KO R (us 9) W
            | 10 => us 10 = .int .i64 C
            | 11 => Nw3 27 wr.heap.size (us 11) W
            | 12 => Yb3 27 wr.heap.size KO R (us 11) W
            | 13 => us 13 = .int .i64 C
            | _ => True) (fun j W W' => Ea 27 wr.heap.size 12 j W W') (fun W => Below wr.heap.size wr W) rfl ?hBA ?hfrA ?hlocA ?hstA ?hG0A ?hGA ?hopA ?hendA
        case hBA => kernel_rfl
        case hfrA =>
          intro us
          simp only [List.length_cons, List.length_nil, Nat.zero_add, Nat.reduceAdd, putO, dstO]
          go_simp
          rfl
        case hlocA =>
          intro i us us' W h hf
          match i with
          | 0 =>
            have e0 := h 0 (.inl rfl)
            try dsimp only at hf ⊢
            rw [e0] at hf
            exact hf
          | 1 =>
            have e1 := h 1 (.inl rfl)
            try dsimp only at hf ⊢
            rw [e1] at hf
            exact hf
          | 2 =>
            have e2 := h 2 (.inl rfl)
            try dsimp only at hf ⊢
            rw [e2] at hf
            exact hf
          | 3 =>
            have e3 := h 3 (.inl rfl)
            try dsimp only at hf ⊢
            rw [e3] at hf
            exact hf
          | 4 =>
            have e4 := h 4 (.inl rfl)
            try dsimp only at hf ⊢
            rw [e4] at hf
            exact hf
          | 5 =>
            have e5 := h 5 (.inl rfl)
            try dsimp only at hf ⊢
            rw [e5] at hf
            exact hf
          | 6 =>
            have e6 := h 6 (.inl rfl)
            try dsimp only at hf ⊢
            rw [e6] at hf
            exact hf
          | 7 =>
            have e7 := h 7 (.inl rfl)
            try dsimp only at hf ⊢
            rw [e7] at hf
            exact hf
          | 8 =>
            have e8 := h 8 (.inl rfl)
            try dsimp only at hf ⊢
            rw [e8] at hf
            exact hf
          | 9 =>
            have e9 := h 9 (.inl rfl)
            try dsimp only at hf ⊢
            rw [e9] at hf
            exact hf
          | 10 =>
            have e10 := h 10 (.inl rfl)
            try dsimp only at hf ⊢
            rw [e10] at hf
            exact hf
          | 11 =>
            have e11 := h 11 (.inl rfl)
            try dsimp only at hf ⊢
            rw [e11] at hf
            exact hf
          | 12 =>
            have e11 := h 11 (.inr (by kernel_rfl))
            try dsimp only at hf ⊢
            rw [e11] at hf
            exact hf
          | 13 =>
            have e13 := h 13 (.inl rfl)
            try dsimp only at hf ⊢
            rw [e13] at hf
            exact hf
          | n + 14 => trivial
        case hstA =>
          intro i j us W W' hne hw hi hj hE hf
          match i with
          | 0 => exact hf
          | 1 => exact hf
          | 2 => exact hf
          | 3 => exact hf
          | 4 => exact hf
          | 5 => exact hf
          | 6 => exact hf
          | 7 =>
            exact Tp.ea (by decide) (by decide) hE hf
          | 8 =>
            exact Tp.ea (by decide) (by decide) hE hf
          | 9 =>
            exact Hp.ea (by decide) (by decide) hE hf
          | 10 => exact hf
          | 11 =>
            exact Nw3.ea hE hf
          | 12 =>
            exact Yb3.ea hE (Ne.symm hne) hf
          | 13 => exact hf
          | n + 14 => trivial
        case hG0A =>
          exact (Below.refl _ wr).drew
        case hGA =>
          intro j W W' hE hg
          exact Ea.below hE hg hg.size
        case hopA =>
          intro i hi us W hg hd hq
          match i, hi with
          | 0, _ =>
            clear hd hq
            have qa := (hg.cell (p := ⟨w.heap.size + 1, 0, none⟩) HLH.out).trans H0.out
            have qb := (hg.cell (p := ⟨w.heap.size + 1, 1, none⟩) HLH.out).trans H1.out
            have qc := (hg.cell (p := ⟨w.heap.size + 1, 2, none⟩) HLH.out).trans H2.out
            refine all_value rfl rfl (.agg #[.int .i64 (kk : Int), .int .i64 0, .slice A N c]) W (by go_simp) ?_ ?_
            · exact .inl (Grows.refl _)
            · rfl
          | 1, _ =>
            clear hd hq
            refine all_value rfl rfl (.int .u64 (tk : Int)) W (by go_simp) ?_ ?_
            · exact .inl (Grows.refl _)
            · rfl
          | 2, _ =>
            clear hd hq
            refine all_value rfl rfl (.slice (some ⟨bd, od, none⟩) nd cd) W (by go_simp) ?_ ?_
            · exact .inl (Grows.refl _)
            · rfl
          | 3, _ =>
            clear hd hq
            refine all_value rfl rfl (.int .i64 (j : Int)) W (by go_simp) ?_ ?_
            · exact .inl (Grows.refl _)
            · rfl
          | 4, _ =>
            have h2 : us 2 = .slice (some ⟨bd, od, none⟩) nd cd := hd 2 (by kernel_rfl)
            have h3 : us 3 = .int .i64 (j : Int) := hd 3 (by kernel_rfl)
            clear hd hq
            refine all_value rfl rfl (.pointer (some ⟨bd, od + j * 2, none⟩)) W (by go_simp) ?_ ?_
            · exact .inl (Grows.refl _)
            · rfl
          | 5, _ =>
            have h4 : us 4 = .pointer (some ⟨bd, od + j * 2, none⟩) := hd 4 (by kernel_rfl)
            clear hd hq
            refine all_value rfl rfl (.pointer (some ⟨bd, od + j * 2 + 1, none⟩)) W (by go_simp) ?_ ?_
            · exact .inl (Grows.refl _)
            · rfl
          | 6, _ =>
            have h5 : us 5 = .pointer (some ⟨bd, od + j * 2 + 1, none⟩) := hd 5 (by kernel_rfl)
            clear hd hq
            have qa := (hg.cell (p := ⟨bd, od + j * 2 + 1, none⟩) HLD.out).trans HD1.out
            refine all_value rfl rfl (.int .u64 (wt : Int)) W (by go_simp) ?_ ?_
            · exact .inl (Grows.refl _)
            · rfl
          | 7, _ =>
            have h0 : us 0 = .agg #[.int .i64 (kk : Int), .int .i64 0, .slice A N c] := hd 0 (by kernel_rfl)
            have h1 : us 1 = .int .u64 (tk : Int) := hd 1 (by kernel_rfl)
            have h6 : us 6 = .int .u64 (wt : Int) := hd 6 (by kernel_rfl)
            clear hd hq
            refine all_call rfl rfl 46 #[.agg #[.int .i64 (kk : Int), .int .i64 0, .slice A N c], .int .u64 (tk : Int), .int .u64 (wt : Int)] (by go_simp) ?_
            exact (HADD.out W hg).mono fun _ W' ⟨A', c', he, hL, hb⟩ => ⟨_, he, .inl hb, ⟨A', c', rfl, hL⟩⟩
          | 8, _ =>
            have h7 : Tp KO C R (us 7) W := hd 7 (by kernel_rfl)
            clear hd hq
            refine all_value rfl rfl (us 7) W (by go_simp) ?_ ?_
            · exact .inl (Grows.refl _)
            · exact h7
          | 9, _ =>
            have h8 : Tp KO C R (us 8) W := hd 8 (by kernel_rfl)
            clear hd hq
            obtain ⟨A', c', e8, hL⟩ := h8
            refine all_value rfl rfl (.agg #[.int .i64 KO, .int .i64 0, .slice A' R.length c']) W (by go_simp) ?_ ?_
            · exact .inl (Grows.refl _)
            · exact ⟨A', c', rfl, hL⟩
          | 10, _ =>
            have h8 : Tp KO C R (us 8) W := hd 8 (by kernel_rfl)
            clear hd hq
            obtain ⟨A', c', e8, hL⟩ := h8
            refine all_value rfl rfl (.int .i64 C) W (by go_simp) ?_ ?_
            · exact .inl (Grows.refl _)
            · rfl
          | 11, _ =>
            clear hd hq
            refine all_value rfl rfl (.pointer (some ⟨W.heap.size, 0, none⟩)) (W.alloc (.cells #[.int .i64 0, .int .i64 0, .slice none 0 0] 27)) (by go_simp) ?_ ?_
            · exact .inl (Grows.alloc _ _)
            · exact ⟨W.heap.size, _, _, _, rfl, hg.size, World.alloc_heap_new _ _⟩
          | 12, _ =>
            have h11 : Nw3 27 wr.heap.size (us 11) W := hd 11 (by kernel_rfl)
            have h9 : Hp KO R (us 9) W := hd 9 (by kernel_rfl)
            clear hd hq
            obtain ⟨A', c', e9, hL⟩ := h9
            obtain ⟨p, x0, x1, x2, e11, hp, hblk⟩ := h11
            obtain ⟨q0, q1, q2⟩ := box3 hblk
            have f0 : ∀ i, W.frozen? ⟨p, i, none⟩ = false := fun i => by simp [World.frozen?, hblk]
            have HBK := Lib.hid hblk
            have hlp := lt_of hblk
            clear hblk
            refine all_skip rfl rfl (((W.setCell ⟨p, 0, none⟩ (.int .i64 KO)).setCell ⟨p, 1, none⟩ (.int .i64 0)).setCell ⟨p, 2, none⟩ (.slice A' R.length c')) (by go_simp) ?_ ?_
            · exact .inr ⟨rfl, st3_set hp HBK.out _ _ _⟩
            · exact ⟨p, A', c', e11, hp, set3 HBK.out _ _ _, levs_set3 (by decide) (by decide) HBK.out _ _ _ hL⟩
          | 13, _ =>
            have h10 : us 10 = .int .i64 C := hd 10 (by kernel_rfl)
            clear hd hq
            refine all_value rfl rfl (.int .i64 C) W (by go_simp) ?_ ?_
            · exact .inl (Grows.refl _)
            · rfl
          | n + 14, h => exact absurd h (by simp)
        case hendA =>
          intro us W hg hf
          have h12 : Yb3 27 wr.heap.size KO R (us 11) W := hf 12 (by simp)
          have h13 : us 13 = .int .i64 C := hf 13 (by simp)
          clear hf
          obtain ⟨p, Ap, cp, e11, hp, hblk, hLp⟩ := h12
          rw [h13, e11]
          have hbA := (hg.block (w.heap.size + 1) HLH.out).trans HBX.out
          obtain ⟨y0, y1, y2⟩ := box3 hbA
          obtain ⟨z0, z1, z2⟩ := box3 hblk
          have fA : ∀ i, W.frozen? ⟨w.heap.size + 1, i, none⟩ = false := fun i => by simp [World.frozen?, hbA]
          have lA := lt_of hbA
          have lp := lt_of hblk
          have hpA : p ≠ w.heap.size + 1 := by have := HLH.out; omega
          have HBA := Lib.hid hbA
          have HLP := Lib.hid hLp
          have HGW := Lib.hid (HBEL.out.trans (hg.mono (by have := HLH.out; omega)))
          have HLW := Lib.hid (HLV.out.grow hg)
          clear hbA hblk hLp hg e11 h13
          by_cases hc : C = 0
          · have hR := HOK.out hc
            have HR1 := Lib.hid hR
            have d : (C == 0) = true := by simpa using hc
            clear hR hc
            go_wp2
            refine ⟨⟨j + 1, Ap, cp, by go_num, by rw [HTK.out], hj30, hjn, ?_, ?_, ?_⟩, by simp [intOf]; omega⟩
            · rw [HR1.out.1, HR1.out.2] at *
              exact set3 HBA.out _ _ _
            · rw [← HR1.out.2]
              exact levs_set3 (by decide) (by decide) HBA.out _ _ _ HLP.out
            · exact below3 HGW.out (Nat.le_refl _) _ _ _
          · have hR := HNO.out hc
            have HR1 := Lib.hid hR
            have d : (C == 0) = false := by simpa using hc
            clear hR hc
            go_wp2
            refine ⟨⟨j + 1, A, c, by go_num, by rw [HTK.out], hj30, hjn, ?_, ?_, HGW.out⟩, by simp [intOf]; omega⟩
            · rw [HR1.out, HN.out]
              exact HBA.out
            · rw [HR1.out, HN.out]
              exact HLW.out
      · have hjd : j = doneN ds := by unfold doneN; omega
        subst hjd
        have hbr := (hbel.block w.heap.size (by omega)).trans P0.out
        obtain ⟨y0, y1, y2⟩ := box3 hbr
        have f1 : ∀ i, wr.frozen? ⟨w.heap.size, i, none⟩ = false := fun i => by simp [World.frozen?, hbr]
        have hlr := lt_of hbr
        have hr3 := set3 hbr (.int .i64 (kk : Int)) (.int .i64 0) (.slice A N c)
        obtain ⟨t0, t1, t2⟩ := box3 hr3
        have hL3 := levs_set3 (by decide) (by decide) hbr (.int .i64 (kk : Int)) (.int .i64 0) (.slice A N c) hL
        have hb3 := below3 hbw (b := w.heap.size) (Nat.le_refl _) (.int .i64 (kk : Int)) (.int .i64 0) (.slice A N c)
        have HL3 := Lib.hid hL3
        have HB3 := Lib.hid hb3
        have T0 := Lib.hid t0
        have T1 := Lib.hid t1
        have T2 := Lib.hid t2
        have HNN := Lib.hid hN
        have HLS := Lib.hid hls
        obtain ⟨jj, hjj⟩ : ∃ jj, doneN ds = jj := ⟨_, rfl⟩
        rw [hjj] at hlt hj30 hjn HLS ⊢
        have HJJ := Lib.hid hjj
        clear hjj hbr hr3 t0 t1 t2 hL3 hb3 hL hbx hbel hbw hN hls htk0 htk hmd hdl
        by_cases h1 : jj < nd
        · have g1 : decide (jj < nd) = true := by simpa using h1
          have g2 : decide ((jj : Int) < 30) = false := by simp; omega
          clear hlt
          go_wp2
          refine bodyPost_ret (v := hv kk 0 (.slice A N c)) (by simp [results, Try.results24, go_sem, T0.out, T1.out, T2.out]) rfl ⟨A, c, ?_, ?_, HB3.out⟩
          · rw [HJJ.out, HLS.out, HNN.out]
          · rw [HJJ.out, HLS.out, HNN.out]
            exact HL3.out
        · have g1 : decide (jj < nd) = false := by simpa using h1
          clear hlt
          go_wp2
          refine bodyPost_ret (v := hv kk 0 (.slice A N c)) (by simp [results, Try.results24, go_sem, T0.out, T1.out, T2.out]) rfl ⟨A, c, ?_, ?_, HB3.out⟩
          · rw [HJJ.out, HLS.out, HNN.out]
          · rw [HJJ.out, HLS.out, HNN.out]
            exact HL3.out

end Go.Proofs.Ytmdknedngiggdaa
end
section
/- Plain mathematics of buckets that are too old: what is dropped, and what stays. -/
namespace Go.Proofs.Lh
open Go.Proofs.Lm (Sp Turn)

/-- Whether a tick is old. -/
def oldB (t f w : Nat) : Bool := decide (t + w ≤ f)
/-- What stays of a level. -/
def cutL (f w : Nat) (l : List Sp) : List Sp := l.filter fun x => !oldB x.2 f w
/-- Without the levels behind the last one that has a bucket. -/
def trim : Lv → Lv
  | [] => []
  | l :: ls => if l = [] ∧ trim ls = [] then [] else l :: trim ls
def dropL (f w : Nat) (L : Lv) : Lv := trim (L.map (cutL f w))

theorem cutL_nil (f w : Nat) : cutL f w [] = [] := rfl
theorem cutL_len (f w : Nat) (l : List Sp) : (cutL f w l).length ≤ l.length := List.length_filter_le _ _
theorem trim_tot : ∀ M : Lv, tot (trim M) = tot M
  | [] => rfl
  | l :: ls => by
    rw [trim]
    split
    · rename_i h
      have := trim_tot ls
      rw [h.2] at this
      have e : tot (l :: ls) = l.length + 2 * tot ls := rfl
      rw [e, h.1, ← this]
      rfl
    · rw [tot, tot, trim_tot ls]
theorem trim_all : ∀ M : Lv, allOf (trim M) = allOf M
  | [] => rfl
  | l :: ls => by
    rw [trim]
    split
    · rename_i h
      have := trim_all ls
      rw [h.2] at this
      have e : allOf (l :: ls) = allOf ls ++ l := rfl
      rw [e, h.1, ← this]
      rfl
    · rw [allOf, allOf, trim_all ls]
theorem all_cut (f w : Nat) : ∀ L : Lv, allOf (L.map (cutL f w)) = cutL f w (allOf L)
  | [] => rfl
  | l :: ls => by
    rw [List.map_cons, allOf, allOf, all_cut f w ls]
    unfold cutL
    rw [List.filter_append]
/-- Cut once more, behind a trim. -/
theorem trim_map (c : List Sp → List Sp) (hc : c [] = []) : ∀ M : Lv, trim ((trim M).map c) = trim (M.map c)
  | [] => rfl
  | l :: ls => by
    have ih := trim_map c hc ls
    rw [trim]
    split
    · rename_i h
      rw [List.map_cons, trim, h.1, hc]
      rw [h.2] at ih
      rw [if_pos ⟨rfl, by rw [← ih]; rfl⟩]
      rfl
    · rw [List.map_cons, List.map_cons, trim, trim, ih]
theorem cut_cut (f g w : Nat) (l : List Sp) : cutL g w (cutL f w l) = cutL (max f g) w l := by
  unfold cutL
  rw [List.filter_filter]
  congr 1
  funext x
  unfold oldB
  rw [← Bool.not_or, ← Bool.decide_or]
  congr 1
  rw [decide_eq_decide]
  omega
/-- Dropped by two fronts it is as dropped by the later one. -/
theorem drop_drop (f g w : Nat) (L : Lv) : dropL g w (dropL f w L) = dropL (max f g) w L := by
  unfold dropL
  rw [trim_map _ (cutL_nil g w), List.map_map]
  congr 2
  funext l
  exact cut_cut f g w l

/-- Levels without an empty one at their end stay. -/
theorem trim_full {k : Nat} (hk : 1 ≤ k) : ∀ {L : Lv} {i : Nat}, Shape k i L → trim L = L
  | [], _, _ => rfl
  | l :: ls, i, h => by
    have h1 := shape_head hk h
    have h2 : trim ls = ls := by
      cases ls with
      | nil => rfl
      | cons m ls => exact trim_full hk h.2.2
    rw [trim, h2, if_neg]
    rintro ⟨e, _⟩
    rw [e] at h1
    simp at h1
theorem cut_all {f w : Nat} {l : List Sp} (h : ∀ x ∈ l, oldB x.2 f w = false) : cutL f w l = l := by
  unfold cutL
  rw [List.filter_eq_self]
  intro x hx
  rw [h x hx]
  rfl
theorem mem_all : ∀ {L : Lv} {l : List Sp} {x : Sp}, l ∈ L → x ∈ l → x ∈ allOf L
  | m :: ls, l, x, hl, hx => by
    rw [allOf, List.mem_append]
    rcases List.mem_cons.1 hl with rfl | hl
    · exact .inr hx
    · exact .inl (mem_all hl hx)
theorem trim_nil {M : Lv} (h : trim M = []) : ∀ l ∈ M, l = [] := by
  induction M with
  | nil => intro l hl; cases hl
  | cons m ls ih =>
    rw [trim] at h
    split at h
    · rename_i h2
      intro l hl
      rcases List.mem_cons.1 hl with rfl | hl
      · exact h2.1
      · exact ih h2.2 l hl
    · cases h
theorem trim_ne {M : Lv} (h : trim M ≠ []) : ∃ l ∈ M, l ≠ [] := by
  induction M with
  | nil => exact absurd rfl h
  | cons m ls ih =>
    rw [trim] at h
    by_cases hm : m = []
    · by_cases hl : trim ls = []
      · rw [if_pos ⟨hm, hl⟩] at h
        exact absurd rfl h
      · obtain ⟨l, h1, h2⟩ := ih hl
        exact ⟨l, List.mem_cons_of_mem _ h1, h2⟩
    · exact ⟨m, List.mem_cons_self, hm⟩
/-- What stays keeps the shape. -/
theorem drop_shape {k : Nat} (hk : 1 ≤ k) (f w : Nat) : ∀ {L : Lv} {i : Nat}, Shape k i L → Turn (allOf L) → Shape k i (dropL f w L)
  | [], _, _, _ => trivial
  | l :: ls, i, hs, ht => by
    have hls : Shape k (i + 1) ls := by
      cases ls with
      | nil => trivial
      | cons m ls => exact hs.2.2
    have htt := ht
    rw [allOf] at htt
    obtain ⟨t1, t2, t3⟩ := turn_app.1 htt
    have ih := drop_shape hk f w hls t1
    have hle : l.length ≤ rm k i := by
      cases ls with
      | nil => exact hs.2
      | cons m ls => exact hs.2.1
    have h1 := shape_head hk hs
    unfold dropL at ih ⊢
    rw [List.map_cons, trim]
    by_cases hz : trim (ls.map (cutL f w)) = []
    · by_cases hc : cutL f w l = []
      · rw [if_pos ⟨hc, hz⟩]
        trivial
      · rw [if_neg (fun h => hc h.1), hz]
        exact ⟨by have := List.length_pos_iff.2 hc; omega, Nat.le_trans (cutL_len f w l) hle⟩
    · -- some bucket of a level above stays: then all of this level, which is later, stays
      obtain ⟨l', hl', hn⟩ := trim_ne hz
      obtain ⟨m, hm, rfl⟩ := List.mem_map.1 hl'
      obtain ⟨y, hy⟩ := List.exists_mem_of_ne_nil _ hn
      unfold cutL at hy
      rw [List.mem_filter] at hy
      have hya : y ∈ allOf ls := mem_all hm hy.1
      have hyo : oldB y.2 f w = false := by simpa using hy.2
      have hall : cutL f w l = l := cut_all fun x hx => by
        have h2 := t3 y hya x hx
        have h3 := t2.1 x hx
        unfold oldB at hyo ⊢
        rw [decide_eq_false_iff_not] at hyo ⊢
        omega
      rw [if_neg (fun h => hz h.2), hall]
      refine shape_cons ih h1 hle fun _ => ?_
      cases ls with
      | nil => exact absurd rfl hz
      | cons m ls => exact hs.1
theorem turn_sub {xs ys : List Sp} (h : Turn ys) (hs : xs.Sublist ys) : Turn xs := ⟨fun x hx => h.1 x (hs.subset hx), h.2.sublist hs⟩
theorem drop_turn (f w : Nat) {L : Lv} (h : Turn (allOf L)) : Turn (allOf (dropL f w L)) := by
  unfold dropL
  rw [trim_all, all_cut]
  exact turn_sub h List.filter_sublist
theorem drop_flat (f w : Nat) {L : Lv} (h : flat L) : flat (dropL f w L) := by
  cases L with
  | nil => trivial
  | cons l ls =>
    unfold dropL
    rw [List.map_cons, trim]
    split
    · trivial
    · intro x hx
      exact h x (List.mem_filter.1 hx).1
theorem tot_cut (f w : Nat) : ∀ L : Lv, tot (L.map (cutL f w)) ≤ tot L
  | [] => Nat.le_refl _
  | l :: ls => by
    have h1 := cutL_len f w l
    have h2 := tot_cut f w ls
    rw [List.map_cons, tot, tot]
    omega
theorem drop_tot (f w : Nat) (L : Lv) : tot (dropL f w L) ≤ tot L := by
  unfold dropL
  rw [trim_tot]
  exact tot_cut f w L
/-- It is a histogram that was made. -/
theorem Made.drop {k : Nat} {L : Lv} (h : Made k L) (f w : Nat) : Made k (dropL f w L) :=
  ⟨h.k2, h.k1, ⟨drop_shape (by have := h.k2; omega) f w h.ok.shape h.ok.turn, drop_turn f w h.ok.turn, drop_flat f w h.ok.flat⟩, Nat.le_trans (drop_tot f w L) h.small⟩
/-- A larger window, an earlier front: as much, or more. -/
theorem cut_later {f g v w : Nat} (hf : g ≤ f) (hw : v ≤ w) (l : List Sp) : (cutL f v l).length ≤ (cutL g w l).length := by
  induction l with
  | nil => exact Nat.le_refl _
  | cons x l ih =>
    unfold cutL at ih ⊢
    rw [List.filter_cons, List.filter_cons]
    cases h1 : oldB x.2 f v with
    | true =>
      cases h2 : oldB x.2 g w with
      | true => simpa using ih
      | false => simp; omega
    | false =>
      have h2 : oldB x.2 g w = false := by
        unfold oldB at h1 ⊢
        rw [decide_eq_false_iff_not] at h1 ⊢
        omega
      rw [h2]
      simpa using ih
theorem drop_later {f g v w : Nat} (hf : g ≤ f) (hw : v ≤ w) (L : Lv) : tot (dropL f v L) ≤ tot (dropL g w L) := by
  unfold dropL
  rw [trim_tot, trim_tot]
  induction L with
  | nil => exact Nat.le_refl _
  | cons l ls ih =>
    have := cut_later hf hw l
    rw [List.map_cons, List.map_cons, tot, tot]
    omega
/-- Nothing is old: all stays. -/
theorem drop_none {k : Nat} (hk : 1 ≤ k) {L : Lv} {f w : Nat} (hs : Shape k 0 L) (h : f < w) : dropL f w L = L := by
  unfold dropL
  have : L.map (cutL f w) = L := by
    conv => rhs; rw [← List.map_id L]
    refine List.map_congr_left fun l _ => cut_all fun x _ => ?_
    unfold oldB
    rw [decide_eq_false_iff_not]
    omega
  rw [this]
  exact trim_full hk hs
/-- The old ones of buckets in turn are the first ones. -/
def olds (f w : Nat) (l : List Sp) : Nat := l.length - (cutL f w l).length
theorem cut_drop (f w : Nat) : ∀ {l : List Sp}, Turn l → cutL f w l = l.drop (olds f w l) ∧ ∀ j (hj : j < l.length), oldB l[j].2 f w = decide (j < olds f w l)
  | [], _ => ⟨rfl, fun j hj => absurd hj (by simp)⟩
  | x :: l, h => by
    have hl : Turn l := turn_sub h (List.sublist_cons_self x l)
    obtain ⟨h1, h2⟩ := cut_drop f w hl
    have hle := cutL_len f w l
    cases hx : oldB x.2 f w with
    | true =>
      have e : cutL f w (x :: l) = cutL f w l := by unfold cutL; rw [List.filter_cons, hx]; rfl
      have eo : olds f w (x :: l) = olds f w l + 1 := by unfold olds; rw [e, List.length_cons]; omega
      rw [e, eo]
      refine ⟨by rw [List.drop_succ_cons]; exact h1, fun j hj => ?_⟩
      cases j with
      | zero => simpa using hx
      | succ j =>
        have := h2 j (by simpa using hj)
        simp only [List.getElem_cons_succ]
        rw [this, decide_eq_decide]
        omega
    | false =>
      have hall : ∀ y ∈ x :: l, oldB y.2 f w = false := by
        intro y hy
        rcases List.mem_cons.1 hy with rfl | hy
        · exact hx
        · have h3 := (List.pairwise_cons.1 h.2).1 y hy
          have h4 := h.1 y (List.mem_cons_of_mem _ hy)
          unfold oldB at hx ⊢
          rw [decide_eq_false_iff_not] at hx ⊢
          omega
      have e : cutL f w (x :: l) = x :: l := cut_all hall
      have eo : olds f w (x :: l) = 0 := by unfold olds; rw [e]; omega
      rw [e, eo]
      refine ⟨rfl, fun j hj => ?_⟩
      rw [hall _ (List.getElem_mem hj)]
      simp

end Go.Proofs.Lh
end
