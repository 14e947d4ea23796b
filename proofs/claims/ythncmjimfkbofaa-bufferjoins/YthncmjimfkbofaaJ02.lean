/- More plain mathematics of what is dropped: level by level, from the last one, and from the first one. · Plain mathematics of a histogram's shape, level by level. · A range over a function that tells, round by round, values that hang on memory: the law of such a loop. · Arguments that are made of integers alone (structs and arrays, and slices of these), opened to their cells. -/
import Derived.Test.YthncmjimfkbofaaJ01
import Derived.RangeFuncNested
import Derived.RangeFuncBound
import Derived.RangeFuncCalls
import Derived.RangeFuncLeaves
import Derived.RangeFuncBox
import Derived.OpenShut
import Derived.Deep.Slices
import Derived.WideShapes
section
/- More plain mathematics of what is dropped: level by level, from the last one, and from the first one. -/
namespace Go.Proofs.Lh
open Go.Proofs.Lm (Sp Turn)

theorem trim_none : ∀ {M : Lv}, (∀ l ∈ M, l = []) → trim M = []
  | [], _ => rfl
  | l :: ls, h => by
    rw [trim, if_pos ⟨h l List.mem_cons_self, trim_none fun m hm => h m (List.mem_cons_of_mem _ hm)⟩]
theorem trim_stop : ∀ (A : Lv) {x : List Sp} {B : Lv}, x ≠ [] → (∀ l ∈ B, l = []) → trim (A ++ x :: B) = A ++ [x]
  | [], x, B, hx, hB => by
    rw [List.nil_append, List.nil_append, trim, trim_none hB, if_neg fun h => hx h.1]
  | a :: A, x, B, hx, hB => by
    rw [List.cons_append, trim, trim_stop A hx hB, if_neg (fun h => by simp at h), List.cons_append]
theorem trim_snoc (M : Lv) (x : List Sp) : trim (M ++ [x]) = if x = [] then trim M else M ++ [x] := by
  by_cases hx : x = []
  · rw [if_pos hx, hx]
    induction M with
    | nil => rfl
    | cons a A ih => rw [List.cons_append, trim, trim, ih]
  · rw [if_neg hx]
    exact trim_stop M hx fun l hl => by cases hl
theorem trim_len : ∀ M : Lv, (trim M).length ≤ M.length
  | [] => Nat.le_refl _
  | l :: ls => by
    have := trim_len ls
    rw [trim]
    split
    · simp
    · simp; omega
theorem trim_take : ∀ M : Lv, M.take (trim M).length = trim M
  | [] => rfl
  | l :: ls => by
    rw [trim]
    split
    · rfl
    · rw [List.length_cons, List.take_succ_cons, trim_take ls]

/-- All of a level is old. -/
def Gone (f w : Nat) (l : List Sp) : Prop := ∀ x ∈ l, oldB x.2 f w = true
theorem Gone.cut {f w : Nat} {l : List Sp} (h : Gone f w l) : cutL f w l = [] := by
  unfold cutL
  rw [List.filter_eq_nil_iff]
  intro x hx
  rw [h x hx]
  simp
/-- From the last level on: all levels from i + 1 on are old, the first j of the level i, too, and the next one isn't. -/
theorem drop_stop {f w i j : Nat} {ls : Lv} (ht : Turn (allOf ls)) (hi : i < ls.length) (hg : ∀ m, i < m → Gone f w (lev ls m)) (hj : j < (lev ls i).length) (ho : Gone f w ((lev ls i).take j)) (hn : oldB ((lev ls i)[j]).2 f w = false) :
    dropL f w ls = ls.take i ++ [(lev ls i).drop j] := by
  have e : ls = ls.take i ++ lev ls i :: ls.drop (i + 1) := by
    rw [← drop_lev hi, List.take_append_drop]
  have hle := lev_lt hi
  have ht2 := ht
  rw [e] at ht2
  have hall : ∀ (A : Lv) (x : List Sp) (B : Lv), allOf (A ++ x :: B) = allOf B ++ x ++ allOf A := by
    intro A x B
    induction A with
    | nil => simp [allOf]
    | cons a A ih => rw [List.cons_append, allOf, ih, allOf]; simp
  rw [hall] at ht2
  obtain ⟨t1, t2, t3⟩ := turn_app.1 ht2
  obtain ⟨t4, t5, t6⟩ := turn_app.1 t1
  generalize hl : lev ls i = l at *
  have hsp : l = l.take j ++ l[j] :: l.drop (j + 1) := by
    rw [← List.drop_eq_getElem_cons hj, List.take_append_drop]
  -- the level i
  have hcut : cutL f w l = l.drop j := by
    have h1 : cutL f w l = cutL f w (l.take j) ++ cutL f w (l.drop j) := by
      unfold cutL
      rw [← List.filter_append, List.take_append_drop]
    have h2 : cutL f w (l.drop j) = l.drop j := by
      refine cut_all fun x hx => ?_
      rw [List.drop_eq_getElem_cons hj] at hx
      rcases List.mem_cons.1 hx with rfl | hx
      · exact hn
      · have h3 : Turn (l[j] :: l.drop (j + 1)) := by
          rw [← List.drop_eq_getElem_cons hj]
          exact turn_sub t5 (List.drop_sublist _ _)
        have h4 := (List.pairwise_cons.1 h3.2).1 x hx
        have h5 := h3.1 x (List.mem_cons_of_mem _ hx)
        unfold oldB at hn ⊢
        rw [decide_eq_false_iff_not] at hn ⊢
        omega
    rw [h1, ho.cut, h2, List.nil_append]
  -- those below
  have hlow : (ls.take i).map (cutL f w) = ls.take i := by
    conv => rhs; rw [← List.map_id (ls.take i)]
    refine List.map_congr_left fun m hm => cut_all fun x hx => ?_
    have hxa : x ∈ allOf (ls.take i) := mem_all hm hx
    have hja : l[j] ∈ allOf (ls.drop (i + 1)) ++ l := List.mem_append_right _ (List.getElem_mem hj)
    have h4 := t3 _ hja x hxa
    have h5 := t2.1 x hxa
    unfold oldB at hn ⊢
    rw [decide_eq_false_iff_not] at hn ⊢
    omega
  unfold dropL
  conv => lhs; rw [e]
  rw [List.map_append, List.map_cons, hcut, hlow]
  refine trim_stop _ ?_ ?_
  · intro h
    have := congrArg List.length h
    simp at this
    omega
  · intro m hm
    obtain ⟨m', hm', rfl⟩ := List.mem_map.1 hm
    obtain ⟨n, hn', rfl⟩ := List.getElem_of_mem hm'
    rw [List.getElem_drop]
    have h7 : i + 1 + n < ls.length := by simp at hn'; omega
    have := hg (i + 1 + n) (by omega)
    rw [lev_lt h7] at this
    exact this.cut
theorem drop_gone {f w : Nat} {ls : Lv} (hg : ∀ m, Gone f w (lev ls m)) : dropL f w ls = [] := by
  unfold dropL
  refine trim_none fun m hm => ?_
  obtain ⟨m', hm', rfl⟩ := List.mem_map.1 hm
  obtain ⟨n, hn', rfl⟩ := List.getElem_of_mem hm'
  have := hg n
  rw [lev_lt hn'] at this
  exact this.cut
theorem gone_take {f w j : Nat} {l : List Sp} (h : Gone f w (l.take j)) (hj : j < l.length) (ho : oldB l[j].2 f w = true) : Gone f w (l.take (j + 1)) := by
  intro x hx
  rw [List.take_succ_eq_append_getElem hj, List.mem_append] at hx
  rcases hx with hx | hx
  · exact h x hx
  · rw [List.mem_singleton.1 hx]
    exact ho

/-- How many levels there are, up to the level i: the document's way. -/
def manyTo (f w : Nat) (ls : Lv) (i : Nat) : Nat := (trim ((ls.take i).map (cutL f w))).length
theorem many_zero (f w : Nat) (ls : Lv) : manyTo f w ls 0 = 0 := rfl
theorem many_succ {f w i : Nat} {ls : Lv} (hi : i < ls.length) : manyTo f w ls (i + 1) = if cutL f w ls[i] = [] then manyTo f w ls i else i + 1 := by
  unfold manyTo
  rw [List.take_succ_eq_append_getElem hi, List.map_append, List.map_cons, List.map_nil, trim_snoc]
  split
  · rfl
  · simp; omega
theorem many_le (f w : Nat) (ls : Lv) (i : Nat) : manyTo f w ls i ≤ i := by
  unfold manyTo
  have h1 := trim_len ((ls.take i).map (cutL f w))
  simp only [List.length_map, List.length_take] at h1
  omega
theorem many_all (f w : Nat) (ls : Lv) : (ls.map (cutL f w)).take (manyTo f w ls ls.length) = dropL f w ls := by
  unfold manyTo dropL
  rw [List.take_length]
  exact trim_take _
theorem cut_snoc {f w j : Nat} {l : List Sp} (hj : j < l.length) : cutL f w (l.take (j + 1)) = if oldB l[j].2 f w then cutL f w (l.take j) else cutL f w (l.take j) ++ [l[j]] := by
  unfold cutL
  rw [List.take_succ_eq_append_getElem hj, List.filter_append, List.filter_cons, List.filter_nil]
  cases oldB l[j].2 f w <;> simp

end Go.Proofs.Lh
end
section
/- Plain mathematics of a histogram's shape, level by level. -/
namespace Go.Proofs.Lh
open Go.Proofs.Lm (Sp Turn)
theorem shape_at {k : Nat} (hk : 1 ≤ k) : ∀ {ls : Lv} {i : Nat} (j : Nat), Shape k i ls → j < ls.length → 1 ≤ (lev ls j).length ∧ (lev ls j).length ≤ rm k (i + j) ∧ (j + 1 ≠ ls.length → rm k (i + j) - 1 ≤ (lev ls j).length)
  | [], _, _, _, h => absurd h (by simp)
  | [l], i, 0, h, _ => ⟨h.1, h.2, fun e => absurd rfl e⟩
  | [l], i, j + 1, _, hj => absurd hj (by simp)
  | l :: m :: ls, i, 0, h, _ => ⟨by have := rm_two k i hk; have := h.1; show 1 ≤ l.length; omega, h.2.1, fun _ => h.1⟩
  | l :: m :: ls, i, j + 1, h, hj => by
    have := shape_at hk j h.2.2 (by simpa using hj)
    rw [show i + 1 + j = i + (j + 1) by omega] at this
    refine ⟨this.1, this.2.1, fun e => this.2.2 fun e' => e ?_⟩
    simp at e' ⊢
    omega
theorem allOf_drop {L : Lv} {i : Nat} (h : i < L.length) : allOf (L.drop i) = allOf (L.drop (i + 1)) ++ lev L i := by
  rw [drop_lev h]
  rfl
theorem allOf_pre : ∀ (L : Lv) (m : Nat), ∃ suf, allOf L = allOf (L.drop m) ++ suf
  | [], m => ⟨[], by simp [allOf]⟩
  | l :: ls, 0 => ⟨[], by simp⟩
  | l :: ls, m + 1 => by
    obtain ⟨suf, h⟩ := allOf_pre ls m
    exact ⟨suf ++ l, by rw [allOf, h, List.drop_succ_cons, List.append_assoc]⟩
/-- The To of the last one, or 0. -/
def ahead (xs : List Sp) : Nat := (xs.getLast?.map (·.2)).getD 0
theorem ahead_snoc (xs : List Sp) (s : Sp) : ahead (xs ++ [s]) = s.2 := by simp [ahead]
theorem turn_next {xs ys : List Sp} {s : Sp} (h : Turn (xs ++ s :: ys)) : ahead xs ≤ s.1 ∧ s.1 ≤ s.2 := by
  obtain ⟨h1, h2, h3⟩ := turn_app.1 h
  refine ⟨?_, h2.1 s (by simp)⟩
  unfold ahead
  cases hl : xs.getLast? with
  | none => simp
  | some x => exact h3 x (List.mem_of_getLast? hl) s (by simp)
theorem turn_drop {L : Lv} (h : Turn (allOf L)) (m : Nat) : Turn (allOf (L.drop m)) := by
  obtain ⟨suf, e⟩ := allOf_pre L m
  rw [e] at h
  exact (turn_app.1 h).1
theorem flat_at {L : Lv} (h : flat L) (x : Sp) (hx : x ∈ lev L 0) : x.1 = x.2 := by
  cases L with
  | nil => simp [lev] at hx
  | cons l ls => exact h x hx
theorem lev_turn {L : Lv} (h : Turn (allOf L)) {i j : Nat} (hi : i < L.length) (hj : j < (lev L i).length) : ahead (allOf (L.drop (i + 1)) ++ (lev L i).take j) ≤ (lev L i)[j].1 ∧ (lev L i)[j].1 ≤ (lev L i)[j].2 := by
  have h1 := turn_drop h i
  rw [allOf_drop hi] at h1
  refine turn_next (ys := (lev L i).drop (j + 1)) ?_
  rw [List.append_assoc, ← List.drop_eq_getElem_cons hj, List.take_append_drop]
  exact h1

/-- A level of what is left. -/
theorem lev_trim : ∀ (M : Lv) (i : Nat), lev (trim M) i = lev M i
  | [], _ => rfl
  | l :: ls, i => by
    rw [trim]
    split
    · rename_i h
      cases i with
      | zero => rw [h.1]; rfl
      | succ i =>
        have := lev_trim ls i
        rw [h.2] at this
        show lev [] (i + 1) = lev ls i
        rw [← this]
        rfl
    · cases i with
      | zero => rfl
      | succ i => exact lev_trim ls i
theorem lev_map (f w : Nat) (L : Lv) (i : Nat) : lev (L.map (cutL f w)) i = cutL f w (lev L i) := by
  unfold lev
  rw [List.getElem?_map]
  cases L[i]? <;> rfl
theorem lev_drop (f w : Nat) (L : Lv) (i : Nat) : lev (dropL f w L) i = cutL f w (lev L i) := by
  unfold dropL
  rw [lev_trim, lev_map]
theorem drop_len (f w : Nat) (L : Lv) : (dropL f w L).length ≤ L.length := by
  unfold dropL
  have := trim_len (L.map (cutL f w))
  simpa using this
theorem turn_lev {L : Lv} (h : Turn (allOf L)) {i : Nat} (hi : i < L.length) : Turn (lev L i) := by
  have h1 := turn_drop h i
  rw [allOf_drop hi] at h1
  exact (turn_app.1 h1).2.1

end Go.Proofs.Lh
end
section
/- A range over a function that tells, round by round, values that hang on memory: the law of such a loop. -/
namespace Go.Proofs.Rn
open Go Go.RowKit

variable {F : Fence} {n : Nat} {P : Program} {α : Type}

theorem grow0 {a b : World} (h : Below a.heap.size a b) : a.grownBy b none := ⟨h.os, h.tape, h.output, h.size, fun i hi _ => h.block i hi⟩
/-- It lasts while memory grows. -/
def Lasts (J : Nat → World → Prop) : Prop := ∀ k W W', J k W → Below W.heap.size W W' → J k W'

/-- What an iterator's value promises: so many rounds as S lets, of which the k-th is handed x with 'Px k x' of that moment's memory; Kp: what a round must keep. -/
def SeqN (F : Fence) (n : Nat) (P : Program) (g : Nat) (lb : Array Value) (enc : α → Array Value) (Px : Nat → α → World → Prop) (Kp : World → World → Prop) (S : Nat → Prop) (w : World) : Prop :=
  ∀ (l : Nat) (J Jx : Nat → World → Prop) (W : World), Below w.heap.size w W → Lasts J → Lasts Jx →
    (∀ k x W1, J k W1 → Px k x W1 → YieldAt F (n - 1) P l (enc x) W1 fun e W' => (e = .returned (.bool true) ∧ J (k + 1) W' ∧ Kp W1 W') ∨ (e = .returned (.bool false) ∧ Jx (k + 1) W')) →
    J 0 W → CallsIn F n P g (#[.func (.yield l) #[] #[]] ++ lb) W fun e W' => (∃ v, e = .returned v) ∧ ((∃ m, S m ∧ J m W') ∨ ∃ k, Jx k W')

/-- How the body of a round may be left. -/
def endsN (B : Nat) (Kp : World → World → Prop) (I : Nat → World → Prop) (Ix : Code → Nat → World → Prop) (k : Nat) (W : World) : Exit → Act → World → Prop
  | .normal, _, W' => KeepsFrom B W W' ∧ Kp W W' ∧ I k W'
  | .ret, _, W' => KeepsFrom B W W' ∧ Ix .ret k W'
  | .exit id, _, W' => KeepsFrom B W W' ∧ Ix (.exit id) k W'
  | .goto t, _, W' => KeepsFrom B W W' ∧ Ix (.goto t) k W'
  | _, _, _ => False

/-- The loop's record and its block for deferred calls, as they lie between two rounds. -/
def Books (B : Nat) (r : Loop) (W : World) : Prop := W.heap[B + 1]? = some (.loop r) ∧ W.heap[B]? = some (.deferred (some []))
theorem Books.grow {B : Nat} {r : Loop} {W W' : World} (h : Books B r W) (hg : Below W.heap.size W W') : Books B r W' :=
  ⟨(hg.block _ (Array.getElem?_eq_some_iff.1 h.1).1).trans h.1, (hg.block _ (Array.getElem?_eq_some_iff.1 h.2).1).trans h.2⟩
theorem Books.turn {B : Nat} {r : Loop} {W : World} (h : Books B r W) (r' : Loop) : Books B r' (W.putObj (B + 1) (.loop r')) :=
  ⟨World.putObj_heap_same (Array.getElem?_eq_some_iff.1 h.1).1, (World.putObj_heap_other (by omega)).trans h.2⟩
theorem Books.keep {B : Nat} {r : Loop} {W W' : World} (h : Books B r W) (hk : KeepsFrom B W W') : Books B r W' :=
  ⟨hk.same _ _ (by omega) h.1 rfl, hk.same _ _ (Nat.le_refl _) h.2 rfl⟩

theorem range_n {g : Operand} {ps : Array Tmp} {assign body : Code} {Q : Exit → Act → World → Prop} {a : Act} {w : World}
    (hro : F.round = none) (h1 : 1 ≤ n) {gf : Nat} {lb : Array Value} (hg : a.eval g = .func (.func gf) #[] lb) (hFg : F.fn gf) (eg : ∀ args w, (callFunc gf args).run P w = .ok (.enter gf args) w)
    {enc : α → Array Value} {Px : Nat → α → World → Prop} {Kp : World → World → Prop} {S : Nat → Prop} {w0 : World} (hseq : SeqN F (n - 1) P gf lb enc Px Kp S w0)
    (hKt : ∀ {A B C : World}, Kp A B → Kp B C → Kp A C) (hKb : ∀ (W : World) (l : Nat) (o o' : Obj), w.heap.size ≤ l → W.heap[l]? = some o → o.isCells = false → Kp W (W.putObj l o'))
    (hPx : ∀ k x (W : World) (l : Nat) (o o' : Obj), w.heap.size ≤ l → W.heap[l]? = some o → o.isCells = false → Px k x W → Px k x (W.putObj l o'))
    (hb0 : Below w0.heap.size w0 w) (hps : ∀ x, (enc x).size = ps.size)
    (I : Nat → World → Prop) (Ix : Code → Nat → World → Prop) (hI : OwnFrom w.heap.size I) (hIx : ∀ c, OwnFrom w.heap.size (Ix c)) (h0 : I 0 w) (a1 : α → Act)
    (hassign : ∀ (l : Nat) (x : α) (W : World) (K : Act → World → Prop), K (a1 x) W →
      assign.wpIn (F.inRound l) (n - 1 - 1) P (Exit.then K (fun _ _ _ => False)) { tmps := (ps.zip (enc x)).foldl (fun t (p, v) => t.setIfInBounds p v) a.tmps, defers := [] } W)
    (hbody : ∀ (l k : Nat) (x : α) (W : World), I k W → Px k x W → body.wpIn (F.inRound l) (n - 1 - 1) P (endsN w.heap.size Kp I Ix (k + 1) W) (a1 x) W)
    (hdone : ∀ (D m : Nat) (W : World), w.heap.size ≤ D → S m → I m W → W.heap[D]? = some (.deferred (some [])) → Q .normal { a with defers := { target := .collected D, args := #[] } :: a.defers } W)
    (hstop : ∀ (D : Nat) (c : Code) (k : Nat) (W : World), w.heap.size ≤ D → Ix c k W → W.heap[D]? = some (.deferred (some [])) → c.wpIn F n P Q { a with defers := { target := .collected D, args := #[] } :: a.defers } W) :
    (Code.rangeFunc g ps assign body).wpIn F n P Q a w := by
  refine wpIn_rangeFunc fun fn hfn => ?_
  obtain ⟨rd, hrd⟩ : ∃ r : Loop, r = { state := .ready, pending := none, fn, tmps := a.tmps, params := ps, assign, body, defers := w.heap.size } := ⟨_, rfl⟩
  have hst : rd.state = .ready := by rw [hrd]
  have hent := run_enterLoop_outer (P := P) (w := w) fn a.tmps ps assign body
  rw [← hrd] at hent
  obtain ⟨W1, hW1⟩ : ∃ W1, (w.alloc (.deferred (some []))).alloc (.loop rd) = W1 := ⟨_, rfl⟩
  rw [hW1] at hent
  have hbk : Books w.heap.size rd W1 := by
    rw [← hW1]
    refine ⟨?_, (Below.heap_alloc _ _ _ (by simp)).trans (World.alloc_heap_new w _)⟩
    have := World.alloc_heap_new (w.alloc (.deferred (some []))) (.loop rd)
    rwa [World.size_alloc] at this
  have hb1 : Below w0.heap.size w0 W1 := by
    rw [← hW1]
    exact (hb0.alloc hb0.size _).alloc (by have := hb0.size; simp; omega) _
  rw [hro]
  refine ⟨_, _, W1, { target := .fn (.func gf) lb, args := #[.func (.yield (w.heap.size + 1)) #[] #[]] }, W1, gf, #[.func (.yield (w.heap.size + 1)) #[] #[]] ++ lb, W1, hent, ?_, ?_, ?_, fun _ => h1, ?_⟩
  · simp only [resolve, hg]
    simp [go_sem]
  · intro f' hf'
    simp [Target.leads] at hf'
    subst hf'
    exact hFg
  · simp [invoke, go_sem, eg]
  have small : ∀ {W : World} {r : Loop} (r' : Loop), Books w.heap.size r W → ∀ {J : Nat → World → Prop} {k : Nat}, OwnFrom w.heap.size J → J k W → J k (W.putObj (w.heap.size + 1) (.loop r')) :=
    fun r' h _ _ hJ hj => hJ.putObj _ hj (by omega) h.1 rfl
  refine (hseq (w.heap.size + 1) (fun k W => I k W ∧ Books w.heap.size rd W) (fun k W => ∃ c, Ix c k W ∧ Books w.heap.size { rd with state := .done, pending := some c } W) W1 hb1 ?_ ?_ ?_ ⟨?_, hbk⟩).mono ?_
  · rintro k X Y ⟨hi, hb⟩ hg'
    exact ⟨hI k X Y none hi (grow0 hg') (fun r e => by cases e), hb.grow hg'⟩
  · rintro k X Y ⟨c, hi, hb⟩ hg'
    exact ⟨c, hIx c k X Y none hi (grow0 hg') (fun r e => by cases e), hb.grow hg'⟩
  · rintro k x W ⟨hi, hb⟩ hx
    have hy := run_yield (P := P) (args := enc x) hb.1 (by rw [hrd]; exact hps x)
    refine ⟨rd.fn, _, rd.assign, rd.body, hy, roundIn_of_wpIn (by rw [hrd]; exact hfn) ?_⟩
    have hasg := hassign (w.heap.size + 1) x W (fun a₁ w₁ => ∃ w₂, (Instr.beginRound (w.heap.size + 1)).run P w₁ = .ok () w₂ ∧ body.wpIn (F.inRound (w.heap.size + 1)) (n - 1 - 1) P (roundPost P (w.heap.size + 1) fun e W' => (e = .returned (.bool true) ∧ (I (k + 1) W' ∧ Books w.heap.size rd W') ∧ Kp W W') ∨ (e = .returned (.bool false) ∧ ∃ c, Ix c (k + 1) W' ∧ Books w.heap.size { rd with state := .done, pending := some c } W')) a₁ w₂) ?_
    · rw [hrd]
      rw [hrd] at hasg
      exact hasg
    refine ⟨_, run_beginRound hb.1 hst, ?_⟩
    have hb2 := hb.turn { rd with state := .busy }
    have hk2 : Kp W (W.putObj (w.heap.size + 1) (.loop { rd with state := .busy })) := hKb _ _ _ _ (by omega) hb.1 rfl
    refine wpIn_mono (hbody (w.heap.size + 1) k x _ (small _ hb hI hi) (hPx k x _ _ _ _ (by omega) hb.1 rfl hx)) ?_
    intro ex a3 W3 hp
    have stop : ∀ c : Code, KeepsFrom w.heap.size (W.putObj (w.heap.size + 1) (.loop { rd with state := .busy })) W3 → Ix c (k + 1) W3 →
        ∃ v W4, (Instr.endRound (w.heap.size + 1) (some c)).run P W3 = .ok v W4 ∧ ((Ending.returned v = .returned (.bool true) ∧ (I (k + 1) W4 ∧ Books w.heap.size rd W4) ∧ Kp W W4) ∨ (Ending.returned v = .returned (.bool false) ∧ ∃ c, Ix c (k + 1) W4 ∧ Books w.heap.size { rd with state := .done, pending := some c } W4)) := by
      intro c hk3 hi3
      have hb3 := hb2.keep hk3
      exact ⟨_, _, run_endRound (P := P) (some c) hb3.1, .inr ⟨rfl, c, small _ hb3 (hIx c) hi3, hb3.turn _⟩⟩
    cases ex with
    | normal =>
      obtain ⟨hk3, hkp3, hi3⟩ := hp
      have hb3 := hb2.keep hk3
      refine ⟨_, _, run_endRound (P := P) none hb3.1, .inl ⟨rfl, ⟨small _ hb3 hI hi3, ?_⟩, hKt (hKt hk2 hkp3) (hKb _ _ _ _ (by omega) hb3.1 rfl)⟩⟩
      have := hb3.turn rd
      rw [hrd] at this ⊢
      exact this
    | ret => exact stop _ hp.1 hp.2
    | exit id => exact stop _ hp.1 hp.2
    | goto t => exact stop _ hp.1 hp.2
    | panic ch => exact hp.elim
    | outgrown => exact hp.elim
  · rw [← hW1]
    exact hI.alloc _ (hI.alloc _ h0)
  · rintro e W2 ⟨⟨v, rfl⟩, (⟨m, hm, hi, hb⟩ | ⟨k, c, hi, hb⟩)⟩
    · refine ⟨_, _, run_endLoop (P := P) hb.1 (by rw [hst]; simp), ?_⟩
      have : rd.pending = none := by rw [hrd]
      rw [this]
      exact hdone _ m _ (Nat.le_refl _) hm (small _ hb hI hi) (hb.turn _).2
    · exact ⟨_, _, run_endLoop (P := P) hb.1 (by simp), hstop _ c k _ (Nat.le_refl _) (small _ hb (hIx c) hi) (hb.turn _).2⟩

end Go.Proofs.Rn
end
section
/- Arguments that are made of integers alone (structs and arrays, and slices of these), opened to their cells. -/
namespace Go.Proofs.Op
open Go Go.RowKit Go.ChangeShapes Go.WideShapes Go.Deep

/-- The kinds of a type's cells, where they are integers. -/
def kindsF (P : Program) (K : TypeId → Option (List IntKind)) (size : Nat) : List Field → Nat → Option (List IntKind)
  | [], off => if size = off then some [] else none
  | f :: fs, off => match K f.type with
    | some ks => if f.offset = off ∧ P.cellsOf f.type = ks.length then (kindsF P K size fs (off + ks.length)).map (ks ++ ·) else none
    | none => none
def kinds (P : Program) : Nat → TypeId → Option (List IntKind)
  | 0, _ => none
  | f + 1, t => match P.underlying t with
    | some (.int k) => some [k]
    | some (.array n e) => match kinds P f e with
      | some ks => if P.cellsOf e = ks.length ∧ P.cellsOf t = n * ks.length then some (List.replicate n ks).flatten else none
      | none => none
    | some (.struct fs) => kindsF P (kinds P f) (P.cellsOf t) fs.toList 0
    | _ => none

/-- Cells that are integers of these kinds, each fitting. -/
def Fits : List IntKind → List Value → Prop
  | [], [] => True
  | k :: ks, v :: vs => (∃ n, v = .int k n ∧ (Lit.int k n).wf = true) ∧ Fits ks vs
  | _, _ => False

theorem Fits.app {ks ks' : List IntKind} {vs vs' : List Value} (h : Fits ks vs) (h' : Fits ks' vs') : Fits (ks ++ ks') (vs ++ vs') := by
  induction ks generalizing vs with
  | nil => cases vs with
    | nil => exact h'
    | cons v vs => exact h.elim
  | cons k ks ih => cases vs with
    | nil => exact h.elim
    | cons v vs => exact ⟨h.1, ih h.2⟩
theorem Fits.at {ks : List IntKind} {vs : List Value} (h : Fits ks vs) (j : Nat) (k : IntKind) (hj : ks[j]? = some k) : ∃ n, vs[j]? = some (.int k n) ∧ (Lit.int k n).wf = true := by
  induction ks generalizing vs j with
  | nil => simp at hj
  | cons k' ks ih => cases vs with
    | nil => exact h.elim
    | cons v vs =>
      cases j with
      | zero =>
        simp only [List.getElem?_cons_zero, Option.some.injEq] at hj
        subst hj
        obtain ⟨n, rfl, hw⟩ := h.1
        exact ⟨n, rfl, hw⟩
      | succ j => exact ih h.2 j hj
theorem Fits.len {ks : List IntKind} {vs : List Value} (h : Fits ks vs) : vs.length = ks.length := by
  induction ks generalizing vs with
  | nil => cases vs with
    | nil => rfl
    | cons v vs => exact h.elim
  | cons k ks ih => cases vs with
    | nil => exact h.elim
    | cons v vs => simp [ih h.2]

section
variable {H : Type} {enc : TypeId × Value → H} {P : Program} {w : World} {base : Nat} {spare : Nat → Bool} {held : Bool}

theorem fits_fields {K : TypeId → Option (List IntKind)} {cs : List Value} {n : Nat} {xs : List (DataW H × List MemPlace)} {fs : Array Field}
    (hK : ∀ t ks cs x, K t = some ks → DataW.trod enc P w base spare held n t cs = some x → Fits ks cs) (hlen : xs.length = fs.size)
    (hf : ∀ (i : Nat) (f : Field), fs[i]? = some f → DataW.trod enc P w base spare held n f.type ((cs.drop f.offset).take (P.cellsOf f.type)) = xs[i]?) :
    ∀ (l : List Field) (i off : Nat) (ks : List IntKind), (∀ j, l[j]? = fs[i + j]?) → kindsF P K cs.length l off = some ks → Fits ks (cs.drop off) := by
  intro l
  induction l with
  | nil =>
    intro i off ks _ h
    simp only [kindsF] at h
    split at h
    · rename_i e
      cases h
      rw [List.drop_of_length_le (by omega)]
      trivial
    · cases h
  | cons f l ih =>
    intro i off ks hl h
    have h0 : fs[i]? = some f := by have := hl 0; simpa using this.symm
    have hi : i < xs.length := by rw [hlen]; exact (Array.getElem?_eq_some_iff.1 h0).1
    simp only [kindsF] at h
    split at h
    · rename_i ks1 hk1
      split at h
      · rename_i hc
        obtain ⟨ho, hC⟩ := hc
        rw [Option.map_eq_some_iff] at h
        obtain ⟨ks2, h2, rfl⟩ := h
        have h1 := hf i f h0
        rw [ho, hC, List.getElem?_eq_getElem hi] at h1
        have f1 := hK _ _ _ _ hk1 h1
        have f2 := ih (i + 1) (off + ks1.length) ks2 (fun j => by have := hl (j + 1); simpa [Nat.add_assoc, Nat.add_comm 1 j] using this) h2
        have : cs.drop off = (cs.drop off).take ks1.length ++ cs.drop (off + ks1.length) := by rw [← List.drop_drop, List.take_append_drop]
        rw [this]
        exact f1.app f2
      · cases h
    · cases h

/-- What is read of a type of integers is integers. -/
theorem fits_of_trod : ∀ (f : Nat) (t : TypeId) (ks : List IntKind) (fuel : Nat) (cs : List Value) (x : DataW H × List MemPlace), kinds P f t = some ks → DataW.trod enc P w base spare held fuel t cs = some x → Fits ks cs
  | 0, _, _, _, _, _, h, _ => by cases h
  | f + 1, t, ks, fuel, cs, x, h, hx => by
    simp only [kinds] at h
    split at h
    · rename_i k ht
      cases h
      obtain ⟨n, rfl, _, hw⟩ := DataW.trod_int ht hx
      exact ⟨⟨n, rfl, hw⟩, trivial⟩
    · rename_i n e ht
      split at h
      · rename_i ks1 hk1
        split at h
        · rename_i hc
          obtain ⟨hC, hT⟩ := hc
          cases h
          obtain ⟨xs, m, _, _, hlen, hxl, hf⟩ := DataW.trod_array ht hx
          have key : ∀ j, j ≤ n → Fits (List.replicate j ks1).flatten (cs.drop ((n - j) * ks1.length)) := by
            intro j
            induction j with
            | zero =>
              intro _
              rw [List.drop_of_length_le (by rw [hlen, hT]; exact Nat.le_refl _)]
              trivial
            | succ j ih =>
              intro hj
              have h1 := hf (n - (j + 1)) (by omega)
              rw [hC, List.getElem?_eq_getElem (by omega)] at h1
              have f1 := fits_of_trod f e ks1 m _ _ hk1 h1
              have f2 := ih (by omega)
              rw [List.replicate_succ, List.flatten_cons]
              have e1 : (n - j) * ks1.length = (n - (j + 1)) * ks1.length + ks1.length := by rw [← Nat.succ_mul]; congr 1; omega
              have : cs.drop ((n - (j + 1)) * ks1.length) = (cs.drop ((n - (j + 1)) * ks1.length)).take ks1.length ++ cs.drop ((n - j) * ks1.length) := by rw [e1, ← List.drop_drop, List.take_append_drop]
              rw [this]
              exact f1.app f2
          have := key n (Nat.le_refl _)
          simpa using this
        · cases h
      · cases h
    · rename_i fs ht
      obtain ⟨xs, n, _, _, hlen, hxl, hf⟩ := DataW.trod_struct ht hx
      rw [← hlen] at h
      have := fits_fields (K := kinds P f) (fun t ks cs x hk hx => fits_of_trod f t ks n cs x hk hx) hxl hf fs.toList 0 0 ks (fun j => by simp) h
      simpa using this
    · cases h

/-- A struct or an array of integers, by value. -/
theorem open_flat {f : Nat} {r : Reach} {b0 : Nat} {t : TypeId} {ks : List IntKind} {v : Value} {d : DataW H} {p : List MemPlace} (hk : kinds P f t = some ks)
    (ha : (match P.underlying t with | some (.struct _) => true | some (.array _ _) => true | _ => false) = true) (hv : Value.okWide P w r b0 t v) (h : DataW.Trod enc P w base spare held t v d p) : ∃ cs : List Value, v = .agg cs.toArray ∧ Fits ks cs := by
  obtain ⟨fuel, hf⟩ := h
  have := fits_of_trod f t ks fuel _ _ hk hf
  split at ha
  · rename_i fs ht
    obtain ⟨cs, rfl, _⟩ := okWide_struct ht hv
    exact ⟨cs.toList, by simp, by simpa [Value.cells] using this⟩
  · rename_i n e ht
    simp only [Value.okWide, ht] at hv
    obtain ⟨cs, rfl, _⟩ := hv
    exact ⟨cs.toList, by simp, by simpa [Value.cells] using this⟩
  · cases ha

/-- A slice of such: each cell of each element. -/
def FlatRow (ks : List IntKind) (w : World) (a : Option Addr) (len cap : Nat) (z : Nat → Nat → Int) : Prop :=
  len ≤ cap ∧ cap ≤ maxLen ∧ (len = 0 ∨ ∃ b off, a = some ⟨b, off, none⟩ ∧ b < w.heap.size ∧ ∀ i, i < len → ∀ j k, ks[j]? = some k → w.cell? ⟨b, off + (i * ks.length + j), none⟩ = some (.int k (z i j)) ∧ (Lit.int k (z i j)).wf = true)

theorem open_flats {f : Nat} {t e : TypeId} {ks : List IntKind} {a : Option Addr} {len cap : Nat} {d : DataW H} {p : List MemPlace} (ht : P.underlying t = some (.slice e)) (hk : kinds P f e = some ks) (hC : P.cellsOf e = ks.length) (h0 : 0 < ks.length)
    (h : DataW.Trod enc P w base spare held t (.slice a len cap) d p) : ∃ z, FlatRow ks w a len cap z := by
  obtain ⟨fuel, hf⟩ := h
  rcases open_slice ht hf with ⟨hcs, _⟩ | ⟨a', len', cap', m, n, D, Pl, hcs, _, hl, hm, hmm, _, hi⟩
  · simp only [Value.cells, List.cons.injEq, Value.slice.injEq, and_true] at hcs
    obtain ⟨rfl, rfl, rfl⟩ := hcs
    exact ⟨fun _ _ => 0, Nat.le_refl _, by simp, .inl rfl⟩
  · simp only [Value.cells, List.cons.injEq, Value.slice.injEq, and_true] at hcs
    obtain ⟨rfl, rfl, rfl⟩ := hcs
    rcases Nat.eq_zero_or_pos len with h00 | hpos
    · exact ⟨fun _ _ => 0, hl, hm, .inl h00⟩
    have hlm : len ≤ m := by rw [hmm]; split <;> omega
    have each : ∀ i, i < len → ∀ j k, ks[j]? = some k → ∃ n, w.cell? ((a'.add (i * ks.length)).add j) = some (.int k n) ∧ (Lit.int k n).wf = true := by
      intro i hil j k hj
      obtain ⟨cs', hc, ht'⟩ := hi i (by omega)
      rw [hC] at hc
      have hfit := fits_of_trod f e ks n cs' _ hk ht'
      obtain ⟨q, hq, hw⟩ := hfit.at j k hj
      have hjl : j < ks.length := (List.getElem?_eq_some_iff.1 hj).1
      have := (World.cells?_some hc).2.2 j hjl
      exact ⟨q, this.trans hq, hw⟩
    obtain ⟨b, off, spot⟩ := a'
    obtain ⟨k0, hk0⟩ : ∃ k, ks[0]? = some k := ⟨_, List.getElem?_eq_getElem h0⟩
    obtain ⟨n0, hc0, _⟩ := each 0 hpos 0 k0 hk0
    have hs : spot = none := by simpa [Addr.add] using World.cell?_spot hc0
    subst hs
    have hadd : ∀ i j, ((⟨b, off, none⟩ : Addr).add i).add j = ⟨b, off + (i + j), none⟩ := by
      intro i j
      rw [Go.WideShapes.add_plain, Go.WideShapes.add_plain, Nat.add_assoc]
    have hbl : b < w.heap.size := by
      rw [hadd] at hc0
      exact World.block_lt_of_cell? w _ hc0
    refine ⟨fun i j => match w.cell? ⟨b, off + (i * ks.length + j), none⟩ with | some (.int _ n) => n | _ => 0, hl, hm, .inr ⟨b, off, rfl, hbl, fun i hil j k hj => ?_⟩⟩
    obtain ⟨q, hq, hw⟩ := each i hil j k hj
    rw [hadd] at hq
    dsimp only
    rw [hq]
    exact ⟨rfl, hw⟩
end

end Go.Proofs.Op
end
