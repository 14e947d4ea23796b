/- A range over a function that tells, round by round, values that hang on memory: the law of such a loop. · The contracts of level's small functions. · The contracts of level's teller, and of the function that it tells. · The contracts of slices.Grow and slices.Concat, as level calls them. -/
import Derived.RangeFuncNested
import Derived.RangeFuncBound
import Derived.RangeFuncCalls
import Derived.RangeFuncLeaves
import Derived.RangeFuncBox
import Derived.WalkKit
import Derived.IntWalk
import Derived.Deep.CutBlock
import Derived.Laws.StructEq
import Derived.KernelRfl
import Derived.Test.YtienfdnlekfmmaaProg
import Derived.Test.YtienfdnlekfmmaaJ02
import Derived.Test.YtienfdnlekfmmaaJ01
import Derived.Lib.AppendZeros
section
/- A range over a function that tells, round by round, values that hang on memory: the law of such a loop. -/
namespace Go.Proofs.Rn
open Go Go.RowKit

variable {F : Fence} {n : Nat} {P : Program} {α : Type}

theorem grow0 {a b : World} (h : Below a.heap.size a b) : a.grownBy b none := ⟨h.os, h.tape, h.output, h.size, fun i hi _ => h.block i hi⟩
/-- It lasts while memory grows. -/
def Lasts (J : Nat → World → Prop) : Prop := ∀ k W W', J k W → Below W.heap.size W W' → J k W'

/-- What an iterator's value promises: so many rounds as S lets, of which the k-th is handed x with 'Px k x' of that moment's memory; Kp: what a round must keep. -/
def SeqN (F : Fence) (n : Nat) (P : Program) (g : Nat) (lb : Array Value) (enc : α → Array Value) (Px : Nat → α → World → Prop) (Kp : World → World → Prop) (S : Nat → Prop) (w : World) : Prop :=
  ∀ (l : Nat) (J Jx : Nat → World → Prop) (W : World), Below w.heap.size w W → Lasts J → Lasts Jx →
    (∀ k x W1, J k W1 → Px k x W1 → YieldAt F (n - 1) P l (enc x) W1 fun e W' => (e = .returned (.bool true) ∧ J (k + 1) W' ∧ Kp W1 W') ∨ (e = .returned (.bool false) ∧ Jx (k + 1) W')) →
    J 0 W → CallsIn F n P g (#[.func (.yield l) #[] #[]] ++ lb) W fun e W' => (∃ v, e = .returned v) ∧ ((∃ m, S m ∧ J m W') ∨ ∃ k, Jx k W')

/-- How the body of a round may be left. -/
def endsN (B : Nat) (Kp : World → World → Prop) (I : Nat → World → Prop) (Ix : Code → Nat → World → Prop) (k : Nat) (W : World) : Exit → Act → World → Prop
  | .normal, _, W' => KeepsFrom B W W' ∧ Kp W W' ∧ I k W'
  | .ret, _, W' => KeepsFrom B W W' ∧ Ix .ret k W'
  | .exit id, _, W' => KeepsFrom B W W' ∧ Ix (.exit id) k W'
  | .goto t, _, W' => KeepsFrom B W W' ∧ Ix (.goto t) k W'
  | _, _, _ => False

/-- The loop's record and its block for deferred calls, as they lie between two rounds. -/
def Books (B : Nat) (r : Loop) (W : World) : Prop := W.heap[B + 1]? = some (.loop r) ∧ W.heap[B]? = some (.deferred (some []))
theorem Books.grow {B : Nat} {r : Loop} {W W' : World} (h : Books B r W) (hg : Below W.heap.size W W') : Books B r W' :=
  ⟨(hg.block _ (Array.getElem?_eq_some_iff.1 h.1).1).trans h.1, (hg.block _ (Array.getElem?_eq_some_iff.1 h.2).1).trans h.2⟩
theorem Books.turn {B : Nat} {r : Loop} {W : World} (h : Books B r W) (r' : Loop) : Books B r' (W.putObj (B + 1) (.loop r')) :=
  ⟨World.putObj_heap_same (Array.getElem?_eq_some_iff.1 h.1).1, (World.putObj_heap_other (by omega)).trans h.2⟩
theorem Books.keep {B : Nat} {r : Loop} {W W' : World} (h : Books B r W) (hk : KeepsFrom B W W') : Books B r W' :=
  ⟨hk.same _ _ (by omega) h.1 rfl, hk.same _ _ (Nat.le_refl _) h.2 rfl⟩

theorem range_n {g : Operand} {ps : Array Tmp} {assign body : Code} {Q : Exit → Act → World → Prop} {a : Act} {w : World}
    (hro : F.round = none) (h1 : 1 ≤ n) {gf : Nat} {lb : Array Value} (hg : a.eval g = .func (.func gf) #[] lb) (hFg : F.fn gf) (eg : ∀ args w, (callFunc gf args).run P w = .ok (.enter gf args) w)
    {enc : α → Array Value} {Px : Nat → α → World → Prop} {Kp : World → World → Prop} {S : Nat → Prop} {w0 : World} (hseq : SeqN F (n - 1) P gf lb enc Px Kp S w0)
    (hKt : ∀ {A B C : World}, Kp A B → Kp B C → Kp A C) (hKb : ∀ (W : World) (l : Nat) (o o' : Obj), w.heap.size ≤ l → W.heap[l]? = some o → o.isCells = false → Kp W (W.putObj l o'))
    (hPx : ∀ k x (W : World) (l : Nat) (o o' : Obj), w.heap.size ≤ l → W.heap[l]? = some o → o.isCells = false → Px k x W → Px k x (W.putObj l o'))
    (hb0 : Below w0.heap.size w0 w) (hps : ∀ x, (enc x).size = ps.size)
    (I : Nat → World → Prop) (Ix : Code → Nat → World → Prop) (hI : OwnFrom w.heap.size I) (hIx : ∀ c, OwnFrom w.heap.size (Ix c)) (h0 : I 0 w) (a1 : α → Act)
    (hassign : ∀ (l : Nat) (x : α) (W : World) (K : Act → World → Prop), K (a1 x) W →
      assign.wpIn (F.inRound l) (n - 1 - 1) P (Exit.then K (fun _ _ _ => False)) { tmps := (ps.zip (enc x)).foldl (fun t (p, v) => t.setIfInBounds p v) a.tmps, defers := [] } W)
    (hbody : ∀ (l k : Nat) (x : α) (W : World), I k W → Px k x W → body.wpIn (F.inRound l) (n - 1 - 1) P (endsN w.heap.size Kp I Ix (k + 1) W) (a1 x) W)
    (hdone : ∀ (D m : Nat) (W : World), w.heap.size ≤ D → S m → I m W → W.heap[D]? = some (.deferred (some [])) → Q .normal { a with defers := { target := .collected D, args := #[] } :: a.defers } W)
    (hstop : ∀ (D : Nat) (c : Code) (k : Nat) (W : World), w.heap.size ≤ D → Ix c k W → W.heap[D]? = some (.deferred (some [])) → c.wpIn F n P Q { a with defers := { target := .collected D, args := #[] } :: a.defers } W) :
    (Code.rangeFunc g ps assign body).wpIn F n P Q a w := by
  refine wpIn_rangeFunc fun fn hfn => ?_
  obtain ⟨rd, hrd⟩ : ∃ r : Loop, r = { state := .ready, pending := none, fn, tmps := a.tmps, params := ps, assign, body, defers := w.heap.size } := ⟨_, rfl⟩
  have hst : rd.state = .ready := by rw [hrd]
  have hent := run_enterLoop_outer (P := P) (w := w) fn a.tmps ps assign body
  rw [← hrd] at hent
  obtain ⟨W1, hW1⟩ : ∃ W1, (w.alloc (.deferred (some []))).alloc (.loop rd) = W1 := ⟨_, rfl⟩
  rw [hW1] at hent
  have hbk : Books w.heap.size rd W1 := by
    rw [← hW1]
    refine ⟨?_, (Below.heap_alloc _ _ _ (by simp)).trans (World.alloc_heap_new w _)⟩
    have := World.alloc_heap_new (w.alloc (.deferred (some []))) (.loop rd)
    rwa [World.size_alloc] at this
  have hb1 : Below w0.heap.size w0 W1 := by
    rw [← hW1]
    exact (hb0.alloc hb0.size _).alloc (by have := hb0.size; simp; omega) _
  rw [hro]
  refine ⟨_, _, W1, { target := .fn (.func gf) lb, args := #[.func (.yield (w.heap.size + 1)) #[] #[]] }, W1, gf, #[.func (.yield (w.heap.size + 1)) #[] #[]] ++ lb, W1, hent, ?_, ?_, ?_, fun _ => h1, ?_⟩
  · simp only [resolve, hg]
    simp [go_sem]
  · intro f' hf'
    simp [Target.leads] at hf'
    subst hf'
    exact hFg
  · simp [invoke, go_sem, eg]
  have small : ∀ {W : World} {r : Loop} (r' : Loop), Books w.heap.size r W → ∀ {J : Nat → World → Prop} {k : Nat}, OwnFrom w.heap.size J → J k W → J k (W.putObj (w.heap.size + 1) (.loop r')) :=
    fun r' h _ _ hJ hj => hJ.putObj _ hj (by omega) h.1 rfl
  refine (hseq (w.heap.size + 1) (fun k W => I k W ∧ Books w.heap.size rd W) (fun k W => ∃ c, Ix c k W ∧ Books w.heap.size { rd with state := .done, pending := some c } W) W1 hb1 ?_ ?_ ?_ ⟨?_, hbk⟩).mono ?_
  · rintro k X Y ⟨hi, hb⟩ hg'
    exact ⟨hI k X Y none hi (grow0 hg') (fun r e => by cases e), hb.grow hg'⟩
  · rintro k X Y ⟨c, hi, hb⟩ hg'
    exact ⟨c, hIx c k X Y none hi (grow0 hg') (fun r e => by cases e), hb.grow hg'⟩
  · rintro k x W ⟨hi, hb⟩ hx
    have hy := run_yield (P := P) (args := enc x) hb.1 (by rw [hrd]; exact hps x)
    refine ⟨rd.fn, _, rd.assign, rd.body, hy, roundIn_of_wpIn (by rw [hrd]; exact hfn) ?_⟩
    have hasg := hassign (w.heap.size + 1) x W (fun a₁ w₁ => ∃ w₂, (Instr.beginRound (w.heap.size + 1)).run P w₁ = .ok () w₂ ∧ body.wpIn (F.inRound (w.heap.size + 1)) (n - 1 - 1) P (roundPost P (w.heap.size + 1) fun e W' => (e = .returned (.bool true) ∧ (I (k + 1) W' ∧ Books w.heap.size rd W') ∧ Kp W W') ∨ (e = .returned (.bool false) ∧ ∃ c, Ix c (k + 1) W' ∧ Books w.heap.size { rd with state := .done, pending := some c } W')) a₁ w₂) ?_
    · rw [hrd]
      rw [hrd] at hasg
      exact hasg
    refine ⟨_, run_beginRound hb.1 hst, ?_⟩
    have hb2 := hb.turn { rd with state := .busy }
    have hk2 : Kp W (W.putObj (w.heap.size + 1) (.loop { rd with state := .busy })) := hKb _ _ _ _ (by omega) hb.1 rfl
    refine wpIn_mono (hbody (w.heap.size + 1) k x _ (small _ hb hI hi) (hPx k x _ _ _ _ (by omega) hb.1 rfl hx)) ?_
    intro ex a3 W3 hp
    have stop : ∀ c : Code, KeepsFrom w.heap.size (W.putObj (w.heap.size + 1) (.loop { rd with state := .busy })) W3 → Ix c (k + 1) W3 →
        ∃ v W4, (Instr.endRound (w.heap.size + 1) (some c)).run P W3 = .ok v W4 ∧ ((Ending.returned v = .returned (.bool true) ∧ (I (k + 1) W4 ∧ Books w.heap.size rd W4) ∧ Kp W W4) ∨ (Ending.returned v = .returned (.bool false) ∧ ∃ c, Ix c (k + 1) W4 ∧ Books w.heap.size { rd with state := .done, pending := some c } W4)) := by
      intro c hk3 hi3
      have hb3 := hb2.keep hk3
      exact ⟨_, _, run_endRound (P := P) (some c) hb3.1, .inr ⟨rfl, c, small _ hb3 (hIx c) hi3, hb3.turn _⟩⟩
    cases ex with
    | normal =>
      obtain ⟨hk3, hkp3, hi3⟩ := hp
      have hb3 := hb2.keep hk3
      refine ⟨_, _, run_endRound (P := P) none hb3.1, .inl ⟨rfl, ⟨small _ hb3 hI hi3, ?_⟩, hKt (hKt hk2 hkp3) (hKb _ _ _ _ (by omega) hb3.1 rfl)⟩⟩
      have := hb3.turn rd
      rw [hrd] at this ⊢
      exact this
    | ret => exact stop _ hp.1 hp.2
    | exit id => exact stop _ hp.1 hp.2
    | goto t => exact stop _ hp.1 hp.2
    | panic ch => exact hp.elim
    | outgrown => exact hp.elim
  · rw [← hW1]
    exact hI.alloc _ (hI.alloc _ h0)
  · rintro e W2 ⟨⟨v, rfl⟩, (⟨m, hm, hi, hb⟩ | ⟨k, c, hi, hb⟩)⟩
    · refine ⟨_, _, run_endLoop (P := P) hb.1 (by rw [hst]; simp), ?_⟩
      have : rd.pending = none := by rw [hrd]
      rw [this]
      exact hdone _ m _ (Nat.le_refl _) hm (small _ hb hI hi) (hb.turn _).2
    · exact ⟨_, _, run_endLoop (P := P) hb.1 (by simp), hstop _ c k _ (Nat.le_refl _) (small _ hb (hIx c) hi) (hb.turn _).2⟩

end Go.Proofs.Rn
end
section
/- The contracts of level's small functions. -/
namespace Go.Proofs.Ytienfdnlekfmmaa
open Go.RowKit Go.Proofs.Rw

theorem ret_i {k : IntKind} {a b : Int} (h : a = b) : Ending.returned (.int k a) = .returned (.int k b) := by rw [h]

/-- How many there must be. -/
def leastI (k i : Int) : Int := if i = 0 then max k 0 else (max k 0 + 1) / 2

theorem leastI_le (k i : Int) (hk : k ≤ 9223372036854775806) : 0 ≤ leastI k i ∧ leastI k i ≤ 9223372036854775806 := by
  unfold leastI
  split <;> omega
/-- The two results of 'settle'. -/
def tw (a b : Nat) : Ending := .returned (.tuple #[.int .u64 (a : Int), .int .u64 (b : Int)])
theorem tw_mk {x y : Int} {a b : Nat} (h1 : x = a) (h2 : y = b) : Ending.returned (.tuple #[.int .u64 x, .int .u64 y]) = tw a b := by rw [h1, h2]; rfl

end Go.Proofs.Ytienfdnlekfmmaa
end
section
/- The contracts of level's teller, and of the function that it tells. -/
namespace Go.Proofs.Ytienfdnlekfmmaa
open Go.RowKit Go.Proofs.Rw
open Go.Proofs.Lm (el)

theorem box1 {W : World} {b : Nat} {v : Value} {t : TypeId} (h : W.heap[b]? = some (.cells #[v] t)) : W.cell? ⟨b, 0, none⟩ = some v ∧ W.frozen? ⟨b, 0, none⟩ = false := by simp [World.cell?, World.frozen?, h]
theorem box2 {W : World} {b : Nat} {u v : Value} {t : TypeId} (h : W.heap[b]? = some (.cells #[u, v] t)) : W.cell? ⟨b, 0, none⟩ = some u ∧ W.cell? ⟨b, 1, none⟩ = some v ∧ W.frozen? ⟨b, 0, none⟩ = false ∧ W.frozen? ⟨b, 1, none⟩ = false := by simp [World.cell?, World.frozen?, h]
theorem lt_of {W : World} {b : Nat} {o : Obj} (h : W.heap[b]? = some o) : b < W.heap.size := (Array.getElem?_eq_some_iff.1 h).1
theorem set1 {w : World} {b o : Nat} {cs : Array Value} {t : TypeId} (u : Value) (h : w.heap[b]? = some (.cells cs t)) : (w.setCell ⟨b, o, none⟩ u).heap[b]? = some (.cells (cs.setIfInBounds o u) t) := heap_setCell_same w b o cs t u h
theorem grown_set (w : World) (b o : Nat) (u : Value) : w.grownBy (w.setCell ⟨b, o, none⟩ u) (some b) := ⟨rfl, rfl, rfl, by simp [World.setCell], fun k _ hk => Below.heap_setCell _ _ _ _ (fun e => hk (by simp [e]))⟩
theorem grown_trans {a b c : World} {k : Option Nat} (h : a.grownBy b k) (h2 : b.grownBy c k) : a.grownBy c k :=
  ⟨h2.os.trans h.os, h2.tape.trans h.tape, h2.output.trans h.output, Nat.le_trans h.size h2.size, fun i hi hn => (h2.block i (Nat.lt_of_lt_of_le hi h.size) hn).trans (h.block i hi hn)⟩
theorem grown_below {a b : World} {k : Option Nat} (h : Below a.heap.size a b) : a.grownBy b k := ⟨h.os, h.tape, h.output, h.size, fun i hi _ => h.block i hi⟩

end Go.Proofs.Ytienfdnlekfmmaa
end
section
/- The contracts of slices.Grow and slices.Concat, as level calls them. -/
namespace Go.Proofs.Ytienfdnlekfmmaa
open Go.RowKit Go.Proofs.Rw

end Go.Proofs.Ytienfdnlekfmmaa
end
