/- A range over a function whose variable of a round lies in memory: the law of such a loop. -/
import Derived.Test.YthmbmiikhghaoaaRangeN
namespace Go.Proofs.Rn
open Go Go.RowKit

variable {F : Fence} {n : Nat} {P : Program} {α : Type}

theorem range_m {g : Operand} {ps : Array Tmp} {assign body : Code} {Q : Exit → Act → World → Prop} {a : Act} {w : World}
    (hro : F.round = none) (h1 : 1 ≤ n) {gf : Nat} {lb : Array Value} (hg : a.eval g = .func (.func gf) #[] lb) (hFg : F.fn gf) (eg : ∀ args w, (callFunc gf args).run P w = .ok (.enter gf args) w)
    {enc : α → Array Value} {Px : Nat → α → World → Prop} {Kp : World → World → Prop} {S : Nat → Prop} {w0 : World} (hseq : SeqN F (n - 1) P gf lb enc Px Kp S w0)
    (hKt : ∀ {A B C : World}, Kp A B → Kp B C → Kp A C) (hKb : ∀ (W : World) (l : Nat) (o o' : Obj), w.heap.size ≤ l → W.heap[l]? = some o → o.isCells = false → Kp W (W.putObj l o'))
    (hPx : ∀ k x (W : World) (l : Nat) (o o' : Obj), w.heap.size ≤ l → W.heap[l]? = some o → o.isCells = false → Px k x W → Px k x (W.putObj l o'))
    (hb0 : Below w0.heap.size w0 w) (hps : ∀ x, (enc x).size = ps.size)
    (I : Nat → World → Prop) (Ix : Code → Nat → World → Prop) (hI : OwnFrom w.heap.size I) (hIx : ∀ c, OwnFrom w.heap.size (Ix c)) (h0 : I 0 w) (ob : α → Obj) (a1 : α → Nat → Act)
    (hKg : ∀ (W W' : World), w.heap.size ≤ W.heap.size → Below W.heap.size W W' → Kp W W') (hPg : ∀ k x (W W' : World), w.heap.size ≤ W.heap.size → Below W.heap.size W W' → Px k x W → Px k x W')
    (hassign : ∀ (l : Nat) (x : α) (W : World) (K : Act → World → Prop), K (a1 x W.heap.size) (W.alloc (ob x)) →
      assign.wpIn (F.inRound l) (n - 1 - 1) P (Exit.then K (fun _ _ _ => False)) { tmps := (ps.zip (enc x)).foldl (fun t (p, v) => t.setIfInBounds p v) a.tmps, defers := [] } W)
    (hbody : ∀ (l k : Nat) (x : α) (b : Nat) (W : World), I k W → Px k x W → w.heap.size ≤ b → W.heap[b]? = some (ob x) → body.wpIn (F.inRound l) (n - 1 - 1) P (endsN w.heap.size Kp I Ix (k + 1) W) (a1 x b) W)
    (hdone : ∀ (D m : Nat) (W : World), w.heap.size ≤ D → S m → I m W → W.heap[D]? = some (.deferred (some [])) → Q .normal { a with defers := { target := .collected D, args := #[] } :: a.defers } W)
    (hstop : ∀ (D : Nat) (c : Code) (k : Nat) (W : World), w.heap.size ≤ D → Ix c k W → W.heap[D]? = some (.deferred (some [])) → c.wpIn F n P Q { a with defers := { target := .collected D, args := #[] } :: a.defers } W) :
    (Code.rangeFunc g ps assign body).wpIn F n P Q a w := by
  refine wpIn_rangeFunc fun fn hfn => ?_
  obtain ⟨rd, hrd⟩ : ∃ r : Loop, r = { state := .ready, pending := none, fn, tmps := a.tmps, params := ps, assign, body, defers := w.heap.size } := ⟨_, rfl⟩
  have hst : rd.state = .ready := by rw [hrd]
  have hent := run_enterLoop_outer (P := P) (w := w) fn a.tmps ps assign body
  rw [← hrd] at hent
  obtain ⟨W1, hW1⟩ : ∃ W1, (w.alloc (.deferred (some []))).alloc (.loop rd) = W1 := ⟨_, rfl⟩
  rw [hW1] at hent
  have hbk : Books w.heap.size rd W1 := by
    rw [← hW1]
    refine ⟨?_, (Below.heap_alloc _ _ _ (by simp)).trans (World.alloc_heap_new w _)⟩
    have := World.alloc_heap_new (w.alloc (.deferred (some []))) (.loop rd)
    rwa [World.size_alloc] at this
  have hb1 : Below w0.heap.size w0 W1 := by
    rw [← hW1]
    exact (hb0.alloc hb0.size _).alloc (by have := hb0.size; simp; omega) _
  rw [hro]
  refine ⟨_, _, W1, { target := .fn (.func gf) lb, args := #[.func (.yield (w.heap.size + 1)) #[] #[]] }, W1, gf, #[.func (.yield (w.heap.size + 1)) #[] #[]] ++ lb, W1, hent, ?_, ?_, ?_, fun _ => h1, ?_⟩
  · simp only [resolve, hg]
    simp [go_sem]
  · intro f' hf'
    simp [Target.leads] at hf'
    subst hf'
    exact hFg
  · simp [invoke, go_sem, eg]
  have small : ∀ {W : World} {r : Loop} (r' : Loop), Books w.heap.size r W → ∀ {J : Nat → World → Prop} {k : Nat}, OwnFrom w.heap.size J → J k W → J k (W.putObj (w.heap.size + 1) (.loop r')) :=
    fun r' h _ _ hJ hj => hJ.putObj _ hj (by omega) h.1 rfl
  refine (hseq (w.heap.size + 1) (fun k W => I k W ∧ Books w.heap.size rd W) (fun k W => ∃ c, Ix c k W ∧ Books w.heap.size { rd with state := .done, pending := some c } W) W1 hb1 ?_ ?_ ?_ ⟨?_, hbk⟩).mono ?_
  · rintro k X Y ⟨hi, hb⟩ hg'
    exact ⟨hI k X Y none hi (grow0 hg') (fun r e => by cases e), hb.grow hg'⟩
  · rintro k X Y ⟨c, hi, hb⟩ hg'
    exact ⟨c, hIx c k X Y none hi (grow0 hg') (fun r e => by cases e), hb.grow hg'⟩
  · rintro k x W ⟨hi, hb⟩ hx
    have hy := run_yield (P := P) (args := enc x) hb.1 (by rw [hrd]; exact hps x)
    refine ⟨rd.fn, _, rd.assign, rd.body, hy, roundIn_of_wpIn (by rw [hrd]; exact hfn) ?_⟩
    have hasg := hassign (w.heap.size + 1) x W (fun a₁ w₁ => ∃ w₂, (Instr.beginRound (w.heap.size + 1)).run P w₁ = .ok () w₂ ∧ body.wpIn (F.inRound (w.heap.size + 1)) (n - 1 - 1) P (roundPost P (w.heap.size + 1) fun e W' => (e = .returned (.bool true) ∧ (I (k + 1) W' ∧ Books w.heap.size rd W') ∧ Kp W W') ∨ (e = .returned (.bool false) ∧ ∃ c, Ix c (k + 1) W' ∧ Books w.heap.size { rd with state := .done, pending := some c } W')) a₁ w₂) ?_
    · rw [hrd]
      rw [hrd] at hasg
      exact hasg
    have hsz : w.heap.size + 1 < W.heap.size := (Array.getElem?_eq_some_iff.1 hb.1).1
    have hbg : Below W.heap.size W (W.alloc (ob x)) := (Below.refl _ W).alloc (Nat.le_refl _) _
    have hbA := hb.grow hbg
    have hiA : I k (W.alloc (ob x)) := hI k W _ none hi (grow0 hbg) (fun r e => by cases e)
    have hxA := hPg k x W _ (by omega) hbg hx
    have hkA := hKg W _ (by omega) hbg
    refine ⟨_, run_beginRound hbA.1 hst, ?_⟩
    have hb2 := hbA.turn { rd with state := .busy }
    have hk2 : Kp W ((W.alloc (ob x)).putObj (w.heap.size + 1) (.loop { rd with state := .busy })) := hKt hkA (hKb _ _ _ _ (by omega) hbA.1 rfl)
    refine wpIn_mono (hbody (w.heap.size + 1) k x W.heap.size _ (small _ hbA hI hiA) (hPx k x _ _ _ _ (by omega) hbA.1 rfl hxA) (by omega) ((World.putObj_heap_other (by omega)).trans (World.alloc_heap_new W _))) ?_
    intro ex a3 W3 hp
    have stop : ∀ c : Code, KeepsFrom w.heap.size ((W.alloc (ob x)).putObj (w.heap.size + 1) (.loop { rd with state := .busy })) W3 → Ix c (k + 1) W3 →
        ∃ v W4, (Instr.endRound (w.heap.size + 1) (some c)).run P W3 = .ok v W4 ∧ ((Ending.returned v = .returned (.bool true) ∧ (I (k + 1) W4 ∧ Books w.heap.size rd W4) ∧ Kp W W4) ∨ (Ending.returned v = .returned (.bool false) ∧ ∃ c, Ix c (k + 1) W4 ∧ Books w.heap.size { rd with state := .done, pending := some c } W4)) := by
      intro c hk3 hi3
      have hb3 := hb2.keep hk3
      exact ⟨_, _, run_endRound (P := P) (some c) hb3.1, .inr ⟨rfl, c, small _ hb3 (hIx c) hi3, hb3.turn _⟩⟩
    cases ex with
    | normal =>
      obtain ⟨hk3, hkp3, hi3⟩ := hp
      have hb3 := hb2.keep hk3
      refine ⟨_, _, run_endRound (P := P) none hb3.1, .inl ⟨rfl, ⟨small _ hb3 hI hi3, ?_⟩, hKt (hKt hk2 hkp3) (hKb _ _ _ _ (by omega) hb3.1 rfl)⟩⟩
      have := hb3.turn rd
      rw [hrd] at this ⊢
      exact this
    | ret => exact stop _ hp.1 hp.2
    | exit id => exact stop _ hp.1 hp.2
    | goto t => exact stop _ hp.1 hp.2
    | panic ch => exact hp.elim
    | outgrown => exact hp.elim
  · rw [← hW1]
    exact hI.alloc _ (hI.alloc _ h0)
  · rintro e W2 ⟨⟨v, rfl⟩, (⟨m, hm, hi, hb⟩ | ⟨k, c, hi, hb⟩)⟩
    · refine ⟨_, _, run_endLoop (P := P) hb.1 (by rw [hst]; simp), ?_⟩
      have : rd.pending = none := by rw [hrd]
      rw [this]
      exact hdone _ m _ (Nat.le_refl _) hm (small _ hb hI hi) (hb.turn _).2
    · exact ⟨_, _, run_endLoop (P := P) hb.1 (by simp), hstop _ c k _ (Nat.le_refl _) (small _ hb (hIx c) hi) (hb.turn _).2⟩

end Go.Proofs.Rn
