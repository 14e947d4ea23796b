/- estimate's function that is ranged over: each bucket, with its units. · A range over a function whose variable of a round lies in memory: the law of such a loop. · The contracts of estimate.Parts and estimate.Of. · replay.weights, its function that is ranged over, tooMuch. -/
import Derived.Test.YtmdknedngiggdaaJ04
import Derived.Test.YtmdknedngiggdaaJ11
import Derived.Test.YtmdknedngiggdaaJ01
import Derived.Laws.EntriesVeiled
section
/- estimate's function that is ranged over: each bucket, with its units. -/
namespace Go.Proofs.Ytmdknedngiggdaa
open Go.RowKit Go.Shelf Go.Proofs.Rw Go.Proofs.Lh Go.Proofs.Rn

attribute [local go_sem] Oper.semAt_some

/-- What is handed over in a round: a bucket's units, and the bucket. -/
abbrev encB (x : Nat × Sp) : Array Value := #[.int .u64 ((2 ^ x.1 : Nat) : Int), .agg #[.int .u64 (x.2.1 : Int), .int .u64 (x.2.2 : Int)]]
def PxB (ls : Lv) (k : Nat) (x : Nat × Sp) (_ : World) : Prop := (bk 0 ls)[k]? = some x
theorem two_ways {e : Ending} {A B : Prop} (h : (e = .returned (.bool true) ∧ A) ∨ (e = .returned (.bool false) ∧ B)) : ∃ q : Bool, e = .returned (.bool q) ∧ (q = true → A) ∧ (q = false → B) := by
  rcases h with ⟨rfl, h⟩ | ⟨rfl, h⟩
  · exact ⟨true, rfl, fun _ => h, fun e => (by cases e)⟩
  · exact ⟨false, rfl, fun e => (by cases e), fun _ => h⟩

theorem unit_wrap {i : Nat} (h : i < 60) : IntKind.u64.wrap (2 ^ i) = ((2 ^ i : Nat) : Int) := by
  have h1 : 2 ^ i ≤ 2 ^ 60 := Nat.pow_le_pow_right (by omega) (by omega)
  have e : (2 : Int) ^ i = ((2 ^ i : Nat) : Int) := by simp
  rw [e]
  generalize 2 ^ i = m at *
  exact IntWalk.u64_in _ ⟨by omega, by omega⟩
theorem Kb.of_below {B : Nat} {W W' : World} (h : Below W.heap.size W W') (hB : B ≤ W.heap.size) : Kb B W W' := ⟨h.size, fun b hb => h.block b (by omega)⟩

end Go.Proofs.Ytmdknedngiggdaa
end
section
/- A range over a function whose variable of a round lies in memory: the law of such a loop. -/
namespace Go.Proofs.Rn
open Go Go.RowKit

variable {F : Fence} {n : Nat} {P : Program} {α : Type}

theorem range_m {g : Operand} {ps : Array Tmp} {assign body : Code} {Q : Exit → Act → World → Prop} {a : Act} {w : World}
    (hro : F.round = none) (h1 : 1 ≤ n) {gf : Nat} {lb : Array Value} (hg : a.eval g = .func (.func gf) #[] lb) (hFg : F.fn gf) (eg : ∀ args w, (callFunc gf args).run P w = .ok (.enter gf args) w)
    {enc : α → Array Value} {Px : Nat → α → World → Prop} {Kp : World → World → Prop} {S : Nat → Prop} {w0 : World} (hseq : SeqN F (n - 1) P gf lb enc Px Kp S w0)
    (hKt : ∀ {A B C : World}, Kp A B → Kp B C → Kp A C) (hKb : ∀ (W : World) (l : Nat) (o o' : Obj), w.heap.size ≤ l → W.heap[l]? = some o → o.isCells = false → Kp W (W.putObj l o'))
    (hPx : ∀ k x (W : World) (l : Nat) (o o' : Obj), w.heap.size ≤ l → W.heap[l]? = some o → o.isCells = false → Px k x W → Px k x (W.putObj l o'))
    (hb0 : Below w0.heap.size w0 w) (hps : ∀ x, (enc x).size = ps.size)
    (I : Nat → World → Prop) (Ix : Code → Nat → World → Prop) (hI : OwnFrom w.heap.size I) (hIx : ∀ c, OwnFrom w.heap.size (Ix c)) (h0 : I 0 w) (ob : α → Obj) (a1 : α → Nat → Act)
    (hKg : ∀ (W W' : World), w.heap.size ≤ W.heap.size → Below W.heap.size W W' → Kp W W') (hPg : ∀ k x (W W' : World), w.heap.size ≤ W.heap.size → Below W.heap.size W W' → Px k x W → Px k x W')
    (hassign : ∀ (l : Nat) (x : α) (W : World) (K : Act → World → Prop), K (a1 x W.heap.size) (W.alloc (ob x)) →
      assign.wpIn (F.inRound l) (n - 1 - 1) P (Exit.then K (fun _ _ _ => False)) { tmps := (ps.zip (enc x)).foldl (fun t (p, v) => t.setIfInBounds p v) a.tmps, defers := [] } W)
    (hbody : ∀ (l k : Nat) (x : α) (b : Nat) (W : World), I k W → Px k x W → w.heap.size ≤ b → W.heap[b]? = some (ob x) → body.wpIn (F.inRound l) (n - 1 - 1) P (endsN w.heap.size Kp I Ix (k + 1) W) (a1 x b) W)
    (hdone : ∀ (D m : Nat) (W : World), w.heap.size ≤ D → S m → I m W → W.heap[D]? = some (.deferred (some [])) → Q .normal { a with defers := { target := .collected D, args := #[] } :: a.defers } W)
    (hstop : ∀ (D : Nat) (c : Code) (k : Nat) (W : World), w.heap.size ≤ D → Ix c k W → W.heap[D]? = some (.deferred (some [])) → c.wpIn F n P Q { a with defers := { target := .collected D, args := #[] } :: a.defers } W) :
    (Code.rangeFunc g ps assign body).wpIn F n P Q a w := by
  refine wpIn_rangeFunc fun fn hfn => ?_
  obtain ⟨rd, hrd⟩ : ∃ r : Loop, r = { state := .ready, pending := none, fn, tmps := a.tmps, params := ps, assign, body, defers := w.heap.size } := ⟨_, rfl⟩
  have hst : rd.state = .ready := by rw [hrd]
  have hent := run_enterLoop_outer (P := P) (w := w) fn a.tmps ps assign body
  rw [← hrd] at hent
  obtain ⟨W1, hW1⟩ : ∃ W1, (w.alloc (.deferred (some []))).alloc (.loop rd) = W1 := ⟨_, rfl⟩
  rw [hW1] at hent
  have hbk : Books w.heap.size rd W1 := by
    rw [← hW1]
    refine ⟨?_, (Below.heap_alloc _ _ _ (by simp)).trans (World.alloc_heap_new w _)⟩
    have := World.alloc_heap_new (w.alloc (.deferred (some []))) (.loop rd)
    rwa [World.size_alloc] at this
  have hb1 : Below w0.heap.size w0 W1 := by
    rw [← hW1]
    exact (hb0.alloc hb0.size _).alloc (by have := hb0.size; simp; omega) _
  rw [hro]
  refine ⟨_, _, W1, { target := .fn (.func gf) lb, args := #[.func (.yield (w.heap.size + 1)) #[] #[]] }, W1, gf, #[.func (.yield (w.heap.size + 1)) #[] #[]] ++ lb, W1, hent, ?_, ?_, ?_, fun _ => h1, ?_⟩
  · simp only [resolve, hg]
    simp [go_sem]
  · intro f' hf'
    simp [Target.leads] at hf'
    subst hf'
    exact hFg
  · simp [invoke, go_sem, eg]
  have small : ∀ {W : World} {r : Loop} (r' : Loop), Books w.heap.size r W → ∀ {J : Nat → World → Prop} {k : Nat}, OwnFrom w.heap.size J → J k W → J k (W.putObj (w.heap.size + 1) (.loop r')) :=
    fun r' h _ _ hJ hj => hJ.putObj _ hj (by omega) h.1 rfl
  refine (hseq (w.heap.size + 1) (fun k W => I k W ∧ Books w.heap.size rd W) (fun k W => ∃ c, Ix c k W ∧ Books w.heap.size { rd with state := .done, pending := some c } W) W1 hb1 ?_ ?_ ?_ ⟨?_, hbk⟩).mono ?_
  · rintro k X Y ⟨hi, hb⟩ hg'
    exact ⟨hI k X Y none hi (grow0 hg') (fun r e => by cases e), hb.grow hg'⟩
  · rintro k X Y ⟨c, hi, hb⟩ hg'
    exact ⟨c, hIx c k X Y none hi (grow0 hg') (fun r e => by cases e), hb.grow hg'⟩
  · rintro k x W ⟨hi, hb⟩ hx
    have hy := run_yield (P := P) (args := enc x) hb.1 (by rw [hrd]; exact hps x)
    refine ⟨rd.fn, _, rd.assign, rd.body, hy, roundIn_of_wpIn (by rw [hrd]; exact hfn) ?_⟩
    have hasg := hassign (w.heap.size + 1) x W (fun a₁ w₁ => ∃ w₂, (Instr.beginRound (w.heap.size + 1)).run P w₁ = .ok () w₂ ∧ body.wpIn (F.inRound (w.heap.size + 1)) (n - 1 - 1) P (roundPost P (w.heap.size + 1) fun e W' => (e = .returned (.bool true) ∧ (I (k + 1) W' ∧ Books w.heap.size rd W') ∧ Kp W W') ∨ (e = .returned (.bool false) ∧ ∃ c, Ix c (k + 1) W' ∧ Books w.heap.size { rd with state := .done, pending := some c } W')) a₁ w₂) ?_
    · rw [hrd]
      rw [hrd] at hasg
      exact hasg
    have hsz : w.heap.size + 1 < W.heap.size := (Array.getElem?_eq_some_iff.1 hb.1).1
    have hbg : Below W.heap.size W (W.alloc (ob x)) := (Below.refl _ W).alloc (Nat.le_refl _) _
    have hbA := hb.grow hbg
    have hiA : I k (W.alloc (ob x)) := hI k W _ none hi (grow0 hbg) (fun r e => by cases e)
    have hxA := hPg k x W _ (by omega) hbg hx
    have hkA := hKg W _ (by omega) hbg
    refine ⟨_, run_beginRound hbA.1 hst, ?_⟩
    have hb2 := hbA.turn { rd with state := .busy }
    have hk2 : Kp W ((W.alloc (ob x)).putObj (w.heap.size + 1) (.loop { rd with state := .busy })) := hKt hkA (hKb _ _ _ _ (by omega) hbA.1 rfl)
    refine wpIn_mono (hbody (w.heap.size + 1) k x W.heap.size _ (small _ hbA hI hiA) (hPx k x _ _ _ _ (by omega) hbA.1 rfl hxA) (by omega) ((World.putObj_heap_other (by omega)).trans (World.alloc_heap_new W _))) ?_
    intro ex a3 W3 hp
    have stop : ∀ c : Code, KeepsFrom w.heap.size ((W.alloc (ob x)).putObj (w.heap.size + 1) (.loop { rd with state := .busy })) W3 → Ix c (k + 1) W3 →
        ∃ v W4, (Instr.endRound (w.heap.size + 1) (some c)).run P W3 = .ok v W4 ∧ ((Ending.returned v = .returned (.bool true) ∧ (I (k + 1) W4 ∧ Books w.heap.size rd W4) ∧ Kp W W4) ∨ (Ending.returned v = .returned (.bool false) ∧ ∃ c, Ix c (k + 1) W4 ∧ Books w.heap.size { rd with state := .done, pending := some c } W4)) := by
      intro c hk3 hi3
      have hb3 := hb2.keep hk3
      exact ⟨_, _, run_endRound (P := P) (some c) hb3.1, .inr ⟨rfl, c, small _ hb3 (hIx c) hi3, hb3.turn _⟩⟩
    cases ex with
    | normal =>
      obtain ⟨hk3, hkp3, hi3⟩ := hp
      have hb3 := hb2.keep hk3
      refine ⟨_, _, run_endRound (P := P) none hb3.1, .inl ⟨rfl, ⟨small _ hb3 hI hi3, ?_⟩, hKt (hKt hk2 hkp3) (hKb _ _ _ _ (by omega) hb3.1 rfl)⟩⟩
      have := hb3.turn rd
      rw [hrd] at this ⊢
      exact this
    | ret => exact stop _ hp.1 hp.2
    | exit id => exact stop _ hp.1 hp.2
    | goto t => exact stop _ hp.1 hp.2
    | panic ch => exact hp.elim
    | outgrown => exact hp.elim
  · rw [← hW1]
    exact hI.alloc _ (hI.alloc _ h0)
  · rintro e W2 ⟨⟨v, rfl⟩, (⟨m, hm, hi, hb⟩ | ⟨k, c, hi, hb⟩)⟩
    · refine ⟨_, _, run_endLoop (P := P) hb.1 (by rw [hst]; simp), ?_⟩
      have : rd.pending = none := by rw [hrd]
      rw [this]
      exact hdone _ m _ (Nat.le_refl _) hm (small _ hb hI hi) (hb.turn _).2
    · exact ⟨_, _, run_endLoop (P := P) hb.1 (by simp), hstop _ c k _ (Nat.le_refl _) (small _ hb (hIx c) hi) (hb.turn _).2⟩

end Go.Proofs.Rn
end
section
/- The contracts of estimate.Parts and estimate.Of. -/
namespace Go.Proofs.Ytmdknedngiggdaa
open Go.RowKit Go.Shelf Go.Proofs.Rw Go.Proofs.Lh Go.Proofs.Rn

attribute [local go_sem] Oper.semAt_some

theorem heap5 (w : World) (o0 o1 o2 o3 o4 : Obj) : ∃ W, W = ((((w.alloc o0).alloc o1).alloc o2).alloc o3).alloc o4 ∧ W.heap.size = w.heap.size + 5 ∧ W.heap[w.heap.size]? = some o0 ∧ W.heap[w.heap.size + 1]? = some o1 ∧ W.heap[w.heap.size + 1 + 1]? = some o2 ∧ W.heap[w.heap.size + 1 + 1 + 1]? = some o3 ∧ W.heap[w.heap.size + 1 + 1 + 1 + 1]? = some o4 ∧ Below w.heap.size w W := by
  refine ⟨_, rfl, by simp, ?_, ?_, ?_, ?_, ?_, (((((Below.refl _ w).alloc (Nat.le_refl _) _).alloc (by simp) _).alloc (by simp; omega) _).alloc (by simp; omega) _).alloc (by simp; omega) _⟩
  · rw [Below.heap_alloc _ _ _ (by simp <;> omega), Below.heap_alloc _ _ _ (by simp <;> omega), Below.heap_alloc _ _ _ (by simp <;> omega), Below.heap_alloc _ _ _ (by simp)]
    exact World.alloc_heap_new w _
  · rw [Below.heap_alloc _ _ _ (by simp <;> omega), Below.heap_alloc _ _ _ (by simp <;> omega), Below.heap_alloc _ _ _ (by simp)]
    have := World.alloc_heap_new (w.alloc o0) o1
    simpa using this
  · rw [Below.heap_alloc _ _ _ (by simp <;> omega), Below.heap_alloc _ _ _ (by simp)]
    have := World.alloc_heap_new ((w.alloc o0).alloc o1) o2
    simpa using this
  · rw [Below.heap_alloc _ _ _ (by simp)]
    have := World.alloc_heap_new (((w.alloc o0).alloc o1).alloc o2) o3
    simpa using this
  · have := World.alloc_heap_new ((((w.alloc o0).alloc o1).alloc o2).alloc o3) o4
    simpa using this
theorem heap_next {w W : World} {B : Nat} (h : Below B w W) (hB : B ≤ W.heap.size) (o : Obj) : ∃ W', W' = W.alloc o ∧ W'.heap.size = W.heap.size + 1 ∧ W'.heap[W.heap.size]? = some o ∧ (∀ b, b < W.heap.size → W'.heap[b]? = W.heap[b]?) ∧ Below B w W' :=
  ⟨_, rfl, by simp, heap_alloc_new W o, fun b hb => Below.heap_alloc W o b hb, h.alloc hB o⟩

theorem boxed_off {W : World} {b b' : Nat} {T : TypeId} {v : Value} (h : Boxed W b T v) (hne : b ≠ b') (u : Value) : Boxed (W.setCell ⟨b', 0, none⟩ u) b T v := (Below.heap_setCell _ _ _ _ hne).trans h
theorem boxed_sum {W : World} {b : Nat} {T : TypeId} {x : Nat} (h : Boxed W b T (.int .u64 (x : Int))) (d : Nat) : Boxed (W.setCell ⟨b, 0, none⟩ (.int .u64 ((x : Int) + (d : Int)))) b T (.int .u64 ((x + d : Nat) : Int)) := by
  have := h.set (.int .u64 ((x + d : Nat) : Int))
  rw [Int.natCast_add] at this ⊢
  exact this
theorem kb_set {B b : Nat} {W : World} (h : B ≤ b) (u : Value) : Kb B W (W.setCell ⟨b, 0, none⟩ u) := ⟨by simp [World.setCell], fun c hc => Below.heap_setCell _ _ _ _ (by simp; omega)⟩
theorem heap_drew' {W : World} {D : Nat} {o : Obj} (h : W.heap[D]? = some o) : W.drew.heap[D]? = some o := h

end Go.Proofs.Ytmdknedngiggdaa
end
section
/- replay.weights, its function that is ranged over, tooMuch. -/
namespace Go.Proofs.Lh
def wtsOf (evs : List Ev) (ms : List Hm) : List Nat := (ms.map fun m => tot m.2.2) ++ evs.map fun e => e.2.2
theorem wts_sum (evs : List Ev) (ms : List Hm) : (wtsOf evs ms).sum = totM ms + totE evs := by
  unfold wtsOf totM totE
  rw [List.sum_append]
theorem wts_len (evs : List Ev) (ms : List Hm) : (wtsOf evs ms).length = ms.length + evs.length := by
  unfold wtsOf
  rw [List.length_append, List.length_map, List.length_map]
theorem take_sum {ws : List Nat} {k x : Nat} (h : ws[k]? = some x) : (ws.take (k + 1)).sum = (ws.take k).sum + x := by
  obtain ⟨hl, e⟩ := List.getElem?_eq_some_iff.1 h
  rw [List.take_succ_eq_append_getElem hl, List.sum_append, e]
  simp
theorem take_sum_le (ws : List Nat) (k : Nat) : (ws.take k).sum ≤ ws.sum := by
  have e : ws.sum = ((ws.take k) ++ (ws.drop k)).sum := by rw [List.take_append_drop]
  rw [e, List.sum_append]
  omega
end Go.Proofs.Lh
namespace Go.Proofs.Ytmdknedngiggdaa
open Go.RowKit Go.Shelf Go.Proofs.Rw Go.Proofs.Lh Go.Proofs.Rn

attribute [local go_sem] Oper.semAt_some

abbrev encW (x : Nat) : Array Value := #[.int .u64 (x : Int)]
def PxW (ws : List Nat) (k : Nat) (x : Nat) (_ : World) : Prop := ws[k]? = some x

/-- What stands in memory behind k weights. -/
def RoomI (w : World) (ws : List Nat) (k : Nat) (W : World) : Prop :=
  (ws.take k).sum ≤ 4503599627370496 ∧ Boxed W (w.heap.size + 1) 61 (.int .u64 ((4503599627370496 - (ws.take k).sum : Nat) : Int)) ∧ Boxed W w.heap.size 4 (.bool false) ∧ Below w.heap.size w W
def RoomX (w : World) (ws : List Nat) (cd : Code) (_ : Nat) (W : World) : Prop :=
  cd = .ret ∧ 4503599627370496 < ws.sum ∧ Boxed W w.heap.size 4 (.bool true) ∧ Below w.heap.size w W

end Go.Proofs.Ytmdknedngiggdaa
end
