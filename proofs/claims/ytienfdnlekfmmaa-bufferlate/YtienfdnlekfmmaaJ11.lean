/- Slices of slices of any elements that are read alone, and a struct of four numbers and a slice of events, as they come in as an argument. · Plain mathematics of events that wait: what goes out by a front, what stays; a buffer that settles; time that goes on; all in turn. · Elements appended to a row of the call's own, at a step of a region that draws its order. · Buffers in memory: rows of events of the call's own, rows of ticks, a buffer as a value. -/
import Derived.Test.YtienfdnlekfmmaaJ02
import Derived.Test.YtienfdnlekfmmaaJ10
import Derived.Deep.RegionLaw
section
/- Slices of slices of any elements that are read alone, and a struct of four numbers and a slice of events, as they come in as an argument. -/
namespace Go.Proofs.Rw
open Go Go.RowKit Go.Proofs.Lh

/-- The slice value v holds slices that hold the lists ls, in blocks below B. -/
def ReadsG {α : Type} (L : Lay α) (w : World) (B : Nat) (v : Value) (ls : List (List α)) : Prop :=
  NilOk v ∧ ∃ vs : List Value, Lies valL w B v vs ∧ vs.length = ls.length ∧ ∀ (i : Nat) (u : Value) (l : List α), vs[i]? = some u → ls[i]? = some l → Lies L w B u l

section
variable {α : Type} {L : Lay α} {w w' : World} {B B' : Nat} {v : Value} {ls : List (List α)}
theorem ReadsG.keep (h : ReadsG L w B v ls) (hk : ∀ b, b < B → w'.heap[b]? = w.heap[b]?) : ReadsG L w' B v ls := by
  obtain ⟨h0, vs, h1, h2, h3⟩ := h
  exact ⟨h0, vs, h1.keep hk, h2, fun i u l hu hl => (h3 i u l hu hl).keep hk⟩
theorem ReadsG.below (h : ReadsG L w B v ls) (hb : Below B w w') : ReadsG L w' B v ls := h.keep hb.block
theorem ReadsG.mono (h : ReadsG L w B v ls) (hB : B ≤ B') : ReadsG L w B' v ls := by
  obtain ⟨h0, vs, h1, h2, h3⟩ := h
  exact ⟨h0, vs, h1.mono hB, h2, fun i u l hu hl => (h3 i u l hu hl).mono hB⟩
theorem ReadsG.grow (h : ReadsG L w w.heap.size v ls) (hb : Below w.heap.size w w') : ReadsG L w' w'.heap.size v ls := (h.below hb).mono hb.size
theorem ReadsG.form (h : ReadsG L w B v ls) : ∃ A cap, v = .slice A ls.length cap ∧ ls.length ≤ cap ∧ cap ≤ maxLen ∧ ReadsG L w B (.slice A ls.length cap) ls := by
  obtain ⟨h0, vs, h1, h2, h3⟩ := h
  obtain ⟨A, cap, hv, h4, h5, h6⟩ := h1.form
  rw [h2] at hv h4 h6
  rw [hv] at h0
  exact ⟨A, cap, hv, h4, h5, h0, vs, h6, h2, h3⟩
theorem ReadsG.at {A : Option Addr} {len cap : Nat} (h : ReadsG L w B (.slice A len cap) ls) (h0 : 0 < ls.length) : ∃ b off, A = some ⟨b, off, none⟩ ∧ b < B ∧ len = ls.length ∧
    ∀ i (hi : i < ls.length), ∃ Ai ci, w.cell? ⟨b, off + i, none⟩ = some (.slice Ai ls[i].length ci) ∧ ls[i].length ≤ ci ∧ ci ≤ maxLen ∧ Lies L w B (.slice Ai ls[i].length ci) ls[i] := by
  obtain ⟨_, vs, h1, h2, h3⟩ := h
  obtain ⟨b, off, hA, hb, hl, hc⟩ := h1.addr (by omega)
  refine ⟨b, off, hA, hb, by omega, fun i hi => ?_⟩
  have hiv : i < vs.length := by omega
  have hL := h3 i vs[i] ls[i] (List.getElem?_eq_getElem hiv) (List.getElem?_eq_getElem hi)
  obtain ⟨Ai, ci, hu, h4, h5, h6⟩ := hL.form
  refine ⟨Ai, ci, ?_, h4, h5, h6⟩
  have := hc i hiv 0 vs[i] rfl
  rw [show i * valL.size + 0 = i by show i * 1 + 0 = i; omega, hu] at this
  exact this
end
end Go.Proofs.Rw
namespace Go.Proofs.Op
open Go Go.RowKit Go.ChangeShapes Go.WideShapes Go.Deep Go.Proofs.Rw Go.Proofs.Lh

section
variable {H : Type} {enc : TypeId × Value → H} {P : Program} {w : World} {base : Nat} {spare : Nat → Bool} {held : Bool}

/-- Cells of lists that came in. -/
theorem open_levelsG {α : Type} {L : Lay α} {F : α → Prop} {ks : List IntKind} {n0 f : Nat} {t e1 e : TypeId} {fuel : Nat} {cs : List Value} {x : DataW H × List MemPlace} (ht : P.underlying t = some (.slice e1)) (ht1 : P.underlying e1 = some (.slice e)) (hc1 : P.cellsOf e1 = 1)
    (hk : kinds P f e = some ks) (hC : P.cellsOf e = n0) (hn0 : n0 = ks.length) (h0n : 0 < ks.length) (row : ∀ (A : Option Addr) (len cap : Nat) (z : Nat → Nat → Int), FlatRow ks w A len cap z → ∃ xs : List α, xs.length = len ∧ Lies L w w.heap.size (.slice A len cap) xs ∧ ∀ y ∈ xs, F y)
    (h : DataW.trod enc P w base spare held fuel t cs = some x) :
    ∃ (A : Option Addr) (c : Nat) (ls : List (List α)), cs = [.slice A ls.length c] ∧ ReadsG L w w.heap.size (.slice A ls.length c) ls ∧ ∀ l ∈ ls, ∀ y ∈ l, F y := by
  subst hn0
  rcases open_slice1 ht hc1 h with ⟨rfl, _⟩ | ⟨a, len, cap, m, n, V, D, Pl, rfl, _, hl, hm, hmm, _, hx⟩
  · exact ⟨none, 0, [], rfl, ⟨fun n c e => (by injection e with _ e1 e2; simp only [List.length_nil] at e1; omega), [], Lies.nil none 0 (by simp), rfl, fun i u l hu _ => (by simp at hu)⟩, by simp⟩
  · have hlm : len ≤ m := by rw [hmm]; split <;> omega
    have each : ∀ i, i < len → ∃ l : List α, Lies L w w.heap.size (V i) l ∧ ∀ y ∈ l, F y := by
      intro i hi
      obtain ⟨_, ht'⟩ := hx i (by omega)
      have key : ∃ ai ni ci, V i = .slice ai ni ci := by
        rcases open_slice ht1 ht' with ⟨e, _⟩ | ⟨a', l', c', _, _, _, _, e, _⟩
        · injection e with e
          exact ⟨_, _, _, e⟩
        · injection e with e
          exact ⟨_, _, _, e⟩
      obtain ⟨ai, ni, ci, e⟩ := key
      rw [e] at ht'
      obtain ⟨z, hz⟩ := open_flats (f := f) (ks := ks) ht1 hk hC h0n ⟨n, ht'⟩
      obtain ⟨xs, e1, e2, e3⟩ := row _ _ _ _ hz
      exact ⟨xs, by rw [e]; exact e2, e3⟩
    rcases Nat.eq_zero_or_pos len with h0 | h0
    · subst h0
      exact ⟨some a, cap, [], rfl, ⟨fun n c e => (by cases e), [], Lies.nil _ _ hm, rfl, fun i u l hu _ => (by simp at hu)⟩, by simp⟩
    obtain ⟨b, off, spot⟩ := a
    have hs : spot = none := by
      have := (hx 0 (by omega)).1
      simpa [Addr.add] using World.cell?_spot this
    subst hs
    have hcell : ∀ i, i < len → w.cell? ⟨b, off + i, none⟩ = some (V i) := fun i hi => by
      have := (hx i (by omega)).1
      rwa [Go.WideShapes.add_plain] at this
    have hbl : b < w.heap.size := World.block_lt_of_cell? w _ (hcell 0 h0)
    have hall : ∃ ls : List (List α), ls.length = len ∧ ∀ i (hi : i < ls.length), Lies L w w.heap.size (V i) ls[i] ∧ ∀ y ∈ ls[i], F y := by
      suffices g : ∀ k, k ≤ len → ∃ ls : List (List α), ls.length = k ∧ ∀ i (hi : i < ls.length), Lies L w w.heap.size (V i) ls[i] ∧ ∀ y ∈ ls[i], F y from g len (Nat.le_refl _)
      intro k
      induction k with
      | zero => intro _; exact ⟨[], rfl, fun i hi => absurd hi (by simp)⟩
      | succ k ih =>
        intro hk'
        obtain ⟨ls, h1, h2⟩ := ih (by omega)
        obtain ⟨l, h3⟩ := each k (by omega)
        refine ⟨ls ++ [l], by simp [h1], fun i hi => ?_⟩
        rcases Nat.lt_or_ge i ls.length with h | h
        · rw [List.getElem_append_left h]
          exact h2 i h
        · have e : i = k := by simp at hi; omega
          subst e
          rw [List.getElem_append_right h]
          simpa [h1] using h3
    obtain ⟨ls, h1, h2⟩ := hall
    have hvl : ((List.range len).map V).length = len := by simp
    refine ⟨some ⟨b, off, none⟩, cap, ls, by rw [h1], ⟨fun n c e => (by cases e), (List.range len).map V, ?_, by rw [hvl, h1], fun i u l hu hl' => ?_⟩, fun l hlm' => ?_⟩
    · refine ⟨some ⟨b, off, none⟩, cap, by rw [hvl, h1], by rw [hvl]; exact hl, hm, .inr ⟨b, off, hbl, rfl, fun j u hu => ?_⟩⟩
      rw [valL_cells] at hu
      obtain ⟨hj, e⟩ := List.getElem?_eq_some_iff.1 hu
      rw [hvl] at hj
      rw [hcell j hj, ← e]
      simp
    · obtain ⟨hi, e⟩ := List.getElem?_eq_some_iff.1 hl'
      obtain ⟨hj, e'⟩ := List.getElem?_eq_some_iff.1 hu
      have := (h2 i hi).1
      rw [e] at this
      rw [← e']
      simpa using this
    · obtain ⟨i, hi, e⟩ := List.getElem_of_mem hlm'
      have := (h2 i hi).2
      rw [e] at this
      exact this
/-- A slice of slices of three numbers, by value. -/
theorem open_lists3 {f : Nat} {r : Reach} {b0 : Nat} {t e1 e : TypeId} {v : Value} {d : DataW H} {p : List MemPlace} (ht : P.underlying t = some (.slice e1)) (ht1 : P.underlying e1 = some (.slice e)) (hc1 : P.cellsOf e1 = 1)
    (hk : kinds P f e = some [.u64, .u64, .u64]) (hC : P.cellsOf e = 3) (hv : Value.okWide P w r b0 t v) (h : DataW.Trod enc P w base spare held t v d p) :
    ∃ (A : Option Addr) (cp : Nat) (ls : List (List Ev)), v = .slice A ls.length cp ∧ ReadsG evL w w.heap.size (.slice A ls.length cp) ls ∧ ∀ l ∈ ls, Fits3 l := by
  obtain ⟨a, len, cap, rfl⟩ := okWide_slice ht hv
  obtain ⟨fuel, hf⟩ := h
  obtain ⟨A, cp, ls, e2, hr, hb⟩ := open_levelsG (L := evL) (F := fun e => e.1 < 18446744073709551616 ∧ e.2.1 < 18446744073709551616 ∧ e.2.2 < 18446744073709551616) (f := f) ht ht1 hc1 hk hC rfl (by decide) (fun _ _ _ _ hz => ev_of_row hz) hf
  simp only [Value.cells, List.cons.injEq, Value.slice.injEq, and_true] at e2
  obtain ⟨rfl, rfl, rfl⟩ := e2
  exact ⟨a, cap, ls, rfl, hr, hb⟩
/-- A struct of four numbers and a slice of three numbers each, by value. -/
theorem open_buf {f : Nat} {r : Reach} {b0 : Nat} {t e : TypeId} {f0 f1 f2 f3 f4 : Field} {v : Value} {d : DataW H} {p : List MemPlace} (ht : P.underlying t = some (.struct #[f0, f1, f2, f3, f4])) (hs : P.cellsOf t = 5)
    (k0 : P.underlying f0.type = some (.int .u64)) (k1 : P.underlying f1.type = some (.int .i64)) (k2 : P.underlying f2.type = some (.int .u64)) (k3 : P.underlying f3.type = some (.int .u64)) (hl : P.underlying f4.type = some (.slice e))
    (o : f0.offset = 0 ∧ f1.offset = 1 ∧ f2.offset = 2 ∧ f3.offset = 3 ∧ f4.offset = 4) (c : P.cellsOf f0.type = 1 ∧ P.cellsOf f1.type = 1 ∧ P.cellsOf f2.type = 1 ∧ P.cellsOf f3.type = 1 ∧ P.cellsOf f4.type = 1)
    (hk : kinds P f e = some [.u64, .u64, .u64]) (hC : P.cellsOf e = 3) (hv : Value.okWide P w r b0 t v) (h : DataW.Trod enc P w base spare held t v d p) :
    ∃ (a0 a1 a2 a3 : Int) (A : Option Addr) (n cp : Nat) (z : Nat → Nat → Int), v = .agg #[.int .u64 a0, .int .i64 a1, .int .u64 a2, .int .u64 a3, .slice A n cp] ∧ (Lit.int .u64 a0).wf = true ∧ (Lit.int .i64 a1).wf = true ∧ (Lit.int .u64 a2).wf = true ∧ (Lit.int .u64 a3).wf = true ∧ FlatRow [.u64, .u64, .u64] w A n cp z := by
  obtain ⟨fuel, hf⟩ := h
  obtain ⟨cs, rfl, hsz⟩ := okWide_struct ht hv
  rw [hs] at hsz
  obtain ⟨xs, n, _, _, _, hxl, hfi⟩ := DataW.trod_struct ht hf
  obtain ⟨cl⟩ := cs
  simp only [List.size_toArray] at hsz
  match cl, hsz with
  | [u0, u1, u2, u3, u4], _ =>
    match xs, hxl with
    | [x0, x1, x2, x3, x4], _ =>
      have g0 := hfi 0 f0 rfl
      have g1 := hfi 1 f1 rfl
      have g2 := hfi 2 f2 rfl
      have g3 := hfi 3 f3 rfl
      have g4 := hfi 4 f4 rfl
      rw [o.1, c.1] at g0
      rw [o.2.1, c.2.1] at g1
      rw [o.2.2.1, c.2.2.1] at g2
      rw [o.2.2.2.1, c.2.2.2.1] at g3
      rw [o.2.2.2.2, c.2.2.2.2] at g4
      have h0 : DataW.trod enc P w base spare held n f0.type [u0] = some x0 := g0
      have h1 : DataW.trod enc P w base spare held n f1.type [u1] = some x1 := g1
      have h2 : DataW.trod enc P w base spare held n f2.type [u2] = some x2 := g2
      have h3 : DataW.trod enc P w base spare held n f3.type [u3] = some x3 := g3
      have h4 : DataW.trod enc P w base spare held n f4.type [u4] = some x4 := g4
      obtain ⟨a0, e0, _, w0⟩ := DataW.trod_int k0 h0
      obtain ⟨a1, e1, _, w1⟩ := DataW.trod_int k1 h1
      obtain ⟨a2, e2, _, w2⟩ := DataW.trod_int k2 h2
      obtain ⟨a3, e3, _, w3⟩ := DataW.trod_int k3 h3
      have key : ∃ ai ni ci, u4 = .slice ai ni ci := by
        rcases open_slice hl h4 with ⟨e, _⟩ | ⟨a', l', c', _, _, _, _, e, _⟩
        · injection e with e
          exact ⟨_, _, _, e⟩
        · injection e with e
          exact ⟨_, _, _, e⟩
      obtain ⟨ai, ni, ci, rfl⟩ := key
      obtain ⟨z, hz⟩ := open_flats (f := f) (ks := [.u64, .u64, .u64]) hl hk hC (by decide) ⟨n, h4⟩
      injection e0 with e0
      injection e1 with e1
      injection e2 with e2
      injection e3 with e3
      exact ⟨a0, a1, a2, a3, ai, ni, ci, z, by rw [e0, e1, e2, e3], w0, w1, w2, w3, hz⟩
end
end Go.Proofs.Op
end
section
/- Plain mathematics of events that wait: what goes out by a front, what stays; a buffer that settles; time that goes on; all in turn. -/
namespace Go.Proofs.Bu
open Go.Proofs.Lh

/-- By their ticks. -/
def Sd (l : List Ev) : Prop := l.Pairwise fun a b => a.1 ≤ b.1
def outL (f : Nat) (l : List Ev) : List Ev := l.filter fun e => decide (e.1 ≤ f)
def stayL (f : Nat) (l : List Ev) : List Ev := l.filter fun e => decide (f < e.1)
def insL (e : Ev) (l : List Ev) : List Ev := outL e.1 l ++ e :: stayL e.1 l
theorem out_cons (f : Nat) (e : Ev) (l : List Ev) : outL f (e :: l) = if e.1 ≤ f then e :: outL f l else outL f l := by
  unfold outL
  rw [List.filter_cons]
  by_cases h : e.1 ≤ f <;> simp [h]
theorem stay_cons (f : Nat) (e : Ev) (l : List Ev) : stayL f (e :: l) = if f < e.1 then e :: stayL f l else stayL f l := by
  unfold stayL
  rw [List.filter_cons]
  by_cases h : f < e.1 <;> simp [h]
theorem out_mem {f : Nat} {l : List Ev} {e : Ev} : e ∈ outL f l ↔ e ∈ l ∧ e.1 ≤ f := by simp [outL]
theorem stay_mem {f : Nat} {l : List Ev} {e : Ev} : e ∈ stayL f l ↔ e ∈ l ∧ f < e.1 := by simp [stayL]
theorem out_none {f : Nat} {l : List Ev} (h : ∀ e ∈ l, f < e.1) : outL f l = [] ∧ stayL f l = l := by
  refine ⟨List.filter_eq_nil_iff.2 fun e he => ?_, List.filter_eq_self.2 fun e he => ?_⟩
  · have := h e he
    simp
    omega
  · simpa using h e he
theorem out_all {f : Nat} {l : List Ev} (h : ∀ e ∈ l, e.1 ≤ f) : outL f l = l ∧ stayL f l = [] := by
  refine ⟨List.filter_eq_self.2 fun e he => ?_, List.filter_eq_nil_iff.2 fun e he => ?_⟩
  · simpa using h e he
  · have := h e he
    simp
    omega
theorem Sd.cons {e : Ev} {l : List Ev} (h : Sd (e :: l)) : (∀ x ∈ l, e.1 ≤ x.1) ∧ Sd l := List.pairwise_cons.1 h
/-- What goes out stands ahead of what stays. -/
theorem out_stay : ∀ {l : List Ev} (f : Nat), Sd l → outL f l ++ stayL f l = l
  | [], _, _ => rfl
  | e :: l, f, h => by
    obtain ⟨h1, h2⟩ := h.cons
    rw [out_cons, stay_cons]
    by_cases he : e.1 ≤ f
    · rw [if_pos he, if_neg (by omega), List.cons_append, out_stay f h2]
    · have hn := out_none (f := f) (l := l) fun x hx => by have := h1 x hx; omega
      rw [if_neg he, if_pos (by omega), hn.1, hn.2]
      rfl
theorem Sd.out {l : List Ev} (h : Sd l) (f : Nat) : Sd (outL f l) := List.Pairwise.filter _ h
theorem Sd.stay {l : List Ev} (h : Sd l) (f : Nat) : Sd (stayL f l) := List.Pairwise.filter _ h
theorem Sd.ins {l : List Ev} (h : Sd l) (e : Ev) : Sd (insL e l) := by
  unfold insL Sd
  rw [List.pairwise_append]
  refine ⟨h.out _, List.pairwise_cons.2 ⟨fun x hx => ?_, h.stay _⟩, fun a ha b hb => ?_⟩
  · have := (stay_mem.1 hx).2
    omega
  · have h1 := (out_mem.1 ha).2
    rcases List.mem_cons.1 hb with rfl | hb
    · exact h1
    · have := (stay_mem.1 hb).2
      omega
theorem ins_len (e : Ev) (l : List Ev) : (insL e l).length = l.length + 1 := by
  have : (outL e.1 l).length + (stayL e.1 l).length = l.length := by
    induction l with
    | nil => rfl
    | cons x l ih =>
      rw [out_cons, stay_cons]
      by_cases h : x.1 ≤ e.1
      · rw [if_pos h, if_neg (by omega)]
        simp only [List.length_cons]
        omega
      · rw [if_neg h, if_pos (by omega)]
        simp only [List.length_cons]
        omega
  unfold insL
  rw [List.length_append, List.length_cons]
  omega
theorem ins_mem {e x : Ev} {l : List Ev} : x ∈ insL e l ↔ x = e ∨ x ∈ l := by
  unfold insL
  rw [List.mem_append, List.mem_cons, out_mem, stay_mem]
  constructor
  · rintro (h | h | h)
    · exact .inr h.1
    · exact .inl h
    · exact .inr h.1
  · rintro (h | h)
    · exact .inr (.inl h)
    · rcases Nat.lt_or_ge e.1 x.1 with h1 | h1
      · exact .inr (.inr ⟨h, h1⟩)
      · exact .inl ⟨h, h1⟩
/-- By a front, and by a later one. -/
theorem out_out {f g : Nat} (h : f ≤ g) {l : List Ev} (hl : Sd l) : outL f l ++ outL g (stayL f l) = outL g l ∧ stayL g (stayL f l) = stayL g l := by
  have h2 : stayL g (stayL f l) = stayL g l := by
    unfold stayL
    rw [List.filter_filter]
    refine List.filter_congr fun e _ => ?_
    by_cases h1 : g < e.1
    · simp [h1]; omega
    · simp [h1]
  refine ⟨?_, h2⟩
  have e1 := out_stay f hl
  have e2 := out_stay g (hl.stay f)
  have e3 := out_stay g hl
  rw [h2] at e2
  have : outL f l ++ outL g (stayL f l) ++ stayL g l = outL g l ++ stayL g l := by rw [List.append_assoc, e2, e1, e3]
  exact List.append_cancel_right this

/-! ### A buffer settles -/

/-- The tick of the event behind which just room wait; 0, where no more wait. -/
def edge (room : Nat) (l : List Ev) : Nat := if room < l.length then (l[l.length - 1 - room]?.map fun e => e.1).getD 0 else 0
theorem edge_few {room : Nat} {l : List Ev} (h : l.length ≤ room) : edge room l = 0 := if_neg (by omega)
theorem edge_at {room : Nat} {l : List Ev} (h : room < l.length) : edge room l = (l[l.length - 1 - room]'(by omega)).1 := by
  unfold edge
  rw [if_pos h, List.getElem?_eq_getElem (by omega)]
  rfl
theorem sd_le {l : List Ev} (h : Sd l) {i j : Nat} (hij : i ≤ j) (hj : j < l.length) : (l[i]'(by omega)).1 ≤ l[j].1 := by
  rcases Nat.eq_or_lt_of_le hij with rfl | hlt
  · exact Nat.le_refl _
  · exact List.pairwise_iff_getElem.1 h i j (by omega) hj hlt
theorem stay_drop {l : List Ev} (h : Sd l) (f : Nat) : stayL f l = l.drop (outL f l).length := by
  have e : (outL f l ++ stayL f l).drop (outL f l).length = stayL f l := List.drop_left
  rw [out_stay f h] at e
  exact e.symm
theorem out_take {l : List Ev} (h : Sd l) (f : Nat) : outL f l = l.take (outL f l).length := by
  have e : (outL f l ++ stayL f l).take (outL f l).length = outL f l := List.take_left
  rw [out_stay f h] at e
  exact e.symm
theorem out_len_le (f : Nat) (l : List Ev) : (outL f l).length ≤ l.length := List.length_filter_le _ _
theorem len_parts {l : List Ev} (h : Sd l) (f : Nat) : (outL f l).length + (stayL f l).length = l.length := by
  rw [← List.length_append, out_stay f h]
theorem out_at {l : List Ev} (h : Sd l) (f : Nat) {i : Nat} (hi : i < l.length) : l[i].1 ≤ f ↔ i < (outL f l).length := by
  have e := out_take h f
  have hs := stay_drop h f
  constructor
  · intro h1
    rcases Nat.lt_or_ge i (outL f l).length with h2 | h2
    · exact h2
    · have : l[i] ∈ stayL f l := by
        rw [hs]
        exact List.mem_drop_iff_getElem.2 ⟨i - (outL f l).length, by omega, by congr 1; omega⟩
      have := (stay_mem.1 this).2
      omega
  · intro h1
    have : l[i] ∈ outL f l := by
      rw [e]
      exact List.mem_take_iff_getElem.2 ⟨i, by omega, rfl⟩
    exact (out_mem.1 this).2
/-- By the edge no more than room stay. -/
theorem edge_room {room : Nat} {l : List Ev} (h : Sd l) {f : Nat} (hf : edge room l ≤ f) : (stayL f l).length ≤ room := by
  have hp := len_parts h f
  by_cases hr : room < l.length
  · rw [edge_at hr] at hf
    have := (out_at h f (show l.length - 1 - room < l.length by omega)).1 hf
    omega
  · omega
/-- And by no earlier front. -/
theorem edge_more {room : Nat} {l : List Ev} (h : Sd l) {f : Nat} (hf : f < edge room l) : room < (stayL f l).length := by
  have hp := len_parts h f
  by_cases hr : room < l.length
  · rw [edge_at hr] at hf
    have h9 : ¬ l.length - 1 - room < (outL f l).length := fun h1 => by
      have := (out_at h f (show l.length - 1 - room < l.length by omega)).2 h1
      omega
    omega
  · rw [edge_few (by omega)] at hf
    omega
/-- The front of a buffer that settled. -/
def frontB (late room mark front : Nat) (l : List Ev) : Nat := max (max front (mark - late)) (edge room l)
/-- The loop: as long as too many wait, the first one's tick is the front. -/
theorem settle_step {room f : Nat} {l : List Ev} (h : Sd l) (hm : room < (stayL f l).length) : ∃ e r, stayL f l = e :: r ∧ f < e.1 ∧ e.1 ≤ edge room l ∧ outL f l ++ outL e.1 (stayL f l) = outL e.1 l ∧ stayL e.1 (stayL f l) = stayL e.1 l ∧ (stayL e.1 l).length < (stayL f l).length := by
  match hs : stayL f l, hm with
  | e :: r, hm => 
    have he : e ∈ stayL f l := by rw [hs]; exact List.mem_cons_self
    have hlt := (stay_mem.1 he).2
    have hle : e.1 ≤ edge room l := by
      rcases Nat.lt_or_ge (edge room l) e.1 with h1 | h1
      · have h2 := edge_room h (room := room) (Nat.le_refl (edge room l))
        have hp := len_parts h f
        have hr : room < l.length := by rw [hs] at hp; omega
        have h3 : (stayL (edge room l) l).length ≥ (stayL f l).length := by
          have : stayL (edge room l) (stayL f l) = stayL f l := by
            refine (out_none fun x hx => ?_).2
            have hx2 := hx
            rw [hs] at hx2
            rcases List.mem_cons.1 hx2 with rfl | hx2
            · exact h1
            · have := (Sd.cons (by rw [← hs]; exact h.stay f)).1 x hx2
              omega
          rcases Nat.le_total (edge room l) f with h4 | h4
          · have h5 := edge_room h h4
            rw [hs] at h5
            omega
          · rw [← (out_out h4 h).2, this]
            exact Nat.le_refl _
        rw [hs] at h3
        omega
      · exact h1
    obtain ⟨h1, h2⟩ := out_out (Nat.le_of_lt hlt) h
    refine ⟨e, r, rfl, hlt, hle, by rw [← hs]; exact h1, by rw [← hs]; exact h2, ?_⟩
    rw [← h2, hs]
    have hp := len_parts (h.stay f) e.1
    rw [hs] at hp
    have : (outL e.1 (e :: r)).length ≠ 0 := by
      rw [out_cons, if_pos (Nat.le_refl _)]
      simp
    omega
/-- Where no more than room stay, and no front was later than it must be. -/
theorem settle_end {late room mark front f : Nat} {l : List Ev} (h : Sd l) (h0 : max front (mark - late) ≤ f) (h1 : f ≤ frontB late room mark front l) (hm : ¬ room < (stayL f l).length) : f = frontB late room mark front l := by
  unfold frontB at *
  rcases Nat.lt_or_ge f (edge room l) with h2 | h2
  · exact absurd (edge_more h h2) hm
  · omega

/-! ### Push, Move -/

structure Bf where
  late : Nat
  room : Nat
  mark : Nat
  front : Nat
  evs : List Ev
def settleB (b : Bf) : Bf × List Ev := ({ b with front := frontB b.late b.room b.mark b.front b.evs, evs := stayL (frontB b.late b.room b.mark b.front b.evs) b.evs }, outL (frontB b.late b.room b.mark b.front b.evs) b.evs)
def moveB (b : Bf) (t : Nat) : Bf × List Ev := settleB { b with mark := max b.mark t }
def pushB (b : Bf) (e : Ev) : Bf × List Ev := settleB { b with mark := max b.mark e.1, evs := insL e b.evs }
/-- May be. -/
structure MayB (b : Bf) : Prop where
  late : b.late ≤ 4611686018427387904
  room : 1 ≤ b.room ∧ b.room ≤ 1024
  few : b.evs.length ≤ b.room
  sd : Sd b.evs
  each : ∀ e ∈ b.evs, 1 ≤ e.2.2 ∧ b.front < e.1 ∧ e.1 ≤ b.mark
  turn : b.front ≤ b.mark ∧ b.mark ≤ 9223372036854775807 ∧ b.mark - b.front ≤ b.late
theorem settle_may {b : Bf} (hl : b.late ≤ 4611686018427387904) (hr : 1 ≤ b.room ∧ b.room ≤ 1024) (hs : Sd b.evs) (he : ∀ e ∈ b.evs, 1 ≤ e.2.2 ∧ e.1 ≤ b.mark) (hf : b.front ≤ b.mark) (hm : b.mark ≤ 9223372036854775807) : MayB (settleB b).1 := by
  have hg : frontB b.late b.room b.mark b.front b.evs ≤ b.mark := by
    have : edge b.room b.evs ≤ b.mark := by
      by_cases h : b.room < b.evs.length
      · rw [edge_at h]
        exact (he _ (List.getElem_mem _)).2
      · rw [edge_few (by omega)]
        omega
    unfold frontB
    omega
  have h1 : max b.front (b.mark - b.late) ≤ frontB b.late b.room b.mark b.front b.evs := by unfold frontB; omega
  have h2 : edge b.room b.evs ≤ frontB b.late b.room b.mark b.front b.evs := by unfold frontB; omega
  refine ⟨hl, hr, edge_room hs h2, hs.stay _, fun e h => ?_, hg, hm, ?_⟩
  · obtain ⟨q1, q2⟩ := stay_mem.1 h
    exact ⟨(he e q1).1, q2, (he e q1).2⟩
  · show b.mark - frontB b.late b.room b.mark b.front b.evs ≤ b.late
    omega
theorem MayB.move {b : Bf} (h : MayB b) {t : Nat} (ht : t ≤ 9223372036854775807) : MayB (moveB b t).1 :=
  settle_may (b := { b with mark := max b.mark t }) h.late h.room h.sd (fun e he => ⟨(h.each e he).1, Nat.le_trans (h.each e he).2.2 (Nat.le_max_left _ _)⟩) (Nat.le_trans h.turn.1 (Nat.le_max_left _ _)) (by have := h.turn.2.1; show max b.mark t ≤ _; omega)
theorem MayB.push {b : Bf} (h : MayB b) {e : Ev} (he : 1 ≤ e.2.2) (ht : e.1 ≤ 9223372036854775807) : MayB (pushB b e).1 :=
  settle_may (b := { b with mark := max b.mark e.1, evs := insL e b.evs }) h.late h.room (h.sd.ins e) (fun x hx => by
    rcases ins_mem.1 hx with rfl | hx
    · exact ⟨he, Nat.le_max_right _ _⟩
    · exact ⟨(h.each x hx).1, Nat.le_trans (h.each x hx).2.2 (Nat.le_max_left _ _)⟩) (Nat.le_trans h.turn.1 (Nat.le_max_left _ _)) (by have := h.turn.2.1; show max b.mark e.1 ≤ _; omega)
/-- Time that goes on to a tick, and then to another one, is as to the later one. -/
theorem move_move {b : Bf} (h : MayB b) (a c : Nat) : (moveB (moveB b a).1 c).1 = (moveB b (max a c)).1 ∧ (moveB b a).2 ++ (moveB (moveB b a).1 c).2 = (moveB b (max a c)).2 := by
  have e0 : edge b.room b.evs = 0 := edge_few h.few
  have ha : frontB b.late b.room (max b.mark a) b.front b.evs = max b.front (max b.mark a - b.late) := by unfold frontB; rw [e0]; omega
  have hac : frontB b.late b.room (max b.mark (max a c)) b.front b.evs = max b.front (max b.mark (max a c) - b.late) := by unfold frontB; rw [e0]; omega
  obtain ⟨f, hf⟩ : ∃ f, max b.front (max b.mark a - b.late) = f := ⟨_, rfl⟩
  obtain ⟨g, hg⟩ : ∃ g, max b.front (max b.mark (max a c) - b.late) = g := ⟨_, rfl⟩
  have hfg : f ≤ g := by omega
  have e1 : edge b.room (stayL f b.evs) = 0 := edge_few (by have := List.length_filter_le (fun e : Ev => decide (f < e.1)) b.evs; have := h.few; unfold stayL; omega)
  have hc : frontB b.late b.room (max (max b.mark a) c) f (stayL f b.evs) = g := by unfold frontB; rw [e1]; omega
  obtain ⟨o1, o2⟩ := out_out hfg h.sd
  unfold moveB settleB
  dsimp only
  rw [ha, hac, hf, hg, hc, o1, o2, Nat.max_assoc]
  exact ⟨rfl, rfl⟩

/-! ### In turn -/

/-- By ticks, and of one tick by keys. -/
def Tn (l : List Ev) : Prop := l.Pairwise fun a b => a.1 < b.1 ∨ a.1 = b.1 ∧ a.2.1 < b.2.1
theorem Tn.sd {l : List Ev} (h : Tn l) : Sd l := List.Pairwise.imp (fun h => by omega) h
theorem Tn.ins {o l : List Ev} {e : Ev} {f : Nat} (h : Tn (o ++ l)) (ho : ∀ x ∈ o, x.1 ≤ f) (hf : f ≤ e.1) (hk : ∀ x ∈ o ++ l, x.2.1 < e.2.1) : Tn (o ++ insL e l) := by
  unfold Tn at *
  rw [List.pairwise_append] at h ⊢
  obtain ⟨h1, h2, h3⟩ := h
  refine ⟨h1, ?_, fun a ha b hb => ?_⟩
  · unfold insL
    rw [List.pairwise_append]
    refine ⟨List.Pairwise.filter _ h2, List.pairwise_cons.2 ⟨fun x hx => .inl (stay_mem.1 hx).2, List.Pairwise.filter _ h2⟩, fun a ha b hb => ?_⟩
    have ha1 := (out_mem.1 ha).2
    rcases List.mem_cons.1 hb with rfl | hb
    · have := hk a (List.mem_append_right _ (out_mem.1 ha).1)
      omega
    · have := (stay_mem.1 hb).2
      omega
  · rcases ins_mem.1 hb with rfl | hb
    · have := ho a ha
      have := hk a (List.mem_append_left _ ha)
      omega
    · exact h3 a ha b hb
/-- What a buffer lets out, behind what went out, and what waits then: all that was there. -/
theorem settle_all {b : Bf} (hs : Sd b.evs) (o : List Ev) : o ++ (settleB b).2 ++ (settleB b).1.evs = o ++ b.evs := by
  rw [List.append_assoc]
  show o ++ (outL _ b.evs ++ stayL _ b.evs) = _
  rw [out_stay _ hs]
theorem settle_out {b : Bf} : ∀ x ∈ (settleB b).2, x.1 ≤ (settleB b).1.front := fun _ hx => (out_mem.1 hx).2
theorem settle_front (b : Bf) : b.front ≤ (settleB b).1.front := by
  show b.front ≤ frontB b.late b.room b.mark b.front b.evs
  unfold frontB
  omega
def wsum (l : List Ev) : Nat := (l.map fun e => e.2.2).sum
theorem wsum_app (a b : List Ev) : wsum (a ++ b) = wsum a + wsum b := by simp [wsum]
theorem wsum_ins (e : Ev) (l : List Ev) : wsum (insL e l) = wsum l + e.2.2 := by
  have : ∀ l : List Ev, wsum (outL e.1 l) + wsum (stayL e.1 l) = wsum l := by
    intro l
    induction l with
    | nil => rfl
    | cons x l ih =>
      rw [out_cons, stay_cons]
      by_cases h : x.1 ≤ e.1
      · rw [if_pos h, if_neg (by omega)]
        simp only [wsum, List.map_cons, List.sum_cons] at *
        omega
      · rw [if_neg h, if_pos (by omega)]
        simp only [wsum, List.map_cons, List.sum_cons] at *
        omega
  unfold insL
  rw [wsum_app, ← this l]
  simp only [wsum, List.map_cons, List.sum_cons]
  omega
end Go.Proofs.Bu
end
section
/- Elements appended to a row of the call's own, at a step of a region that draws its order. -/
namespace Go.Proofs.Rw
open Go Go.RowKit
variable {α : Type} {L : Lay α}

theorem step_app {P : Program} (e : TypeId) (z : Value) (bytes : Nat) {t : TypeId} (hinfo : (P.info? e).map (fun i => (i.zero, i.size, i.bytes)) = some (some z, L.size, bytes)) (ht : P.underlying t = some (.slice e)) (hz : z.cells.size = L.size) (hsz : 0 < L.size) (hby : bytes ≤ 1000)
    {w : World} {ops : Array Oper} {o : Oper} {a : Act} {K : Act → World → Prop} {Q : Exit → Act → World → Prop} {E : Prop} (hgd : o.guard = none) (s x : Operand)
    (hop : o.op = Op.call { callee := Callee.builtin Builtin.append, args := #[s, x], argTypes := #[t, t] }) (base : Nat) (v u : Value) (xs ys : List α) (B : Nat) (hs : a.eval s = v) (hown : w.ownsRow base e L.size v xs.length (L.cells xs))
    (hx : a.eval x = u) (hu : Lies L w B u ys) (h1 : ∀ y ∈ ys, ∀ u ∈ L.enc y, u.oneCell' = true) (hb : xs.length + ys.length ≤ 10000000) (hbase : base ≤ w.heap.size)
    (hK : ∀ v' w', w'.ownsRow base e L.size v' (xs ++ ys).length (L.cells (xs ++ ys)) → w.grownBy w' v.ownBlock → K (a.put o.dst v') w') :
    if Region.wanted o (yielded ops a.tmps) = true then Oper.wp P o a w K Q else E := by
  have hw : Region.wanted o (yielded ops a.tmps) = true := by simp [Region.wanted, hgd]
  rw [if_pos hw]
  obtain ⟨v', w', hr, h2, h3⟩ := run_app t o.type e z bytes hinfo ht hz hsz hby w hown hu h1 hb hbase
  unfold Oper.wp execOp
  simp only [hop, resolve, invoke, builtin, Sem.run_bind, Sem.run_pure, Result.andThen_ok, List.map_toArray, List.map_cons, List.map_nil, hs, hx, hr]
  exact hK v' w' h2 h3

/-- A lump in a literal of one. -/
theorem lit_lump' (T : TypeId) (W : World) (n : Nat) (hn : W.heap.size = n) (a b : Nat) (v : Int) (hv : v = (b : Int)) : Lies spL (W.alloc (.cells #[.int .u64 a, .int .u64 v] T)) (n + 1) (.slice (some ⟨n, 0, none⟩) 1 1) [(a, b)] := by
  subst hv hn
  refine ⟨_, 1, rfl, by simp, by unfold maxLen; omega, .inr ⟨W.heap.size, 0, by omega, rfl, fun j u hu => ?_⟩⟩
  rw [Nat.zero_add, cell_of_row _ _ _ #[.int .u64 a, .int .u64 b] T (0, 0) (heap_alloc_new W _)]
  rw [cells_one] at hu
  simpa [spL] using hu

end Go.Proofs.Rw
end
section
/- Buffers in memory: rows of events of the call's own, rows of ticks, a buffer as a value. -/
set_option linter.unusedVariables false
namespace Go.Proofs.Rw
open Go Go.RowKit Go.Proofs.Lh Go.Proofs.Bu

/-- Numbers. -/
def nuL : Lay Nat := ⟨1, fun x => [.int .u64 x], fun _ => rfl⟩
theorem nu_one (ys : List Nat) : ∀ y ∈ ys, ∀ u ∈ nuL.enc y, u.oneCell' = true := by
  intro y _ u hu
  simp only [nuL, List.mem_cons, List.not_mem_nil, or_false] at hu
  subst hu
  rfl
theorem nu_at {w : World} {B : Nat} {A : Option Addr} {len cap : Nat} {xs : List Nat} (h : Lies nuL w B (.slice A len cap) xs) (h0 : 0 < xs.length) : ∃ b off, A = some ⟨b, off, none⟩ ∧ b < B ∧ len = xs.length ∧
    ∀ i (hi : i < xs.length), w.cell? ⟨b, off + i, none⟩ = some (.int .u64 xs[i]) := by
  obtain ⟨b, off, hA, hb, hl, hc⟩ := h.addr h0
  refine ⟨b, off, hA, hb, hl, fun i hi => ?_⟩
  have := hc i hi 0 _ rfl
  rwa [show i * nuL.size + 0 = i by show i * 1 + 0 = i; omega] at this

/-- A buffer as a value. -/
abbrev bval (l r m f : Int) (s : Value) : Value := .agg #[.int .u64 l, .int .i64 r, .int .u64 m, .int .u64 f, s]
abbrev bufV (b : Bf) (A : Option Addr) (c : Nat) : Value := bval (b.late : Int) (b.room : Int) (b.mark : Int) (b.front : Int) (.slice A b.evs.length c)

/-- A buffer's variable: five cells. -/
theorem box5 {W : World} {b : Nat} {v0 v1 v2 v3 v4 : Value} {t : TypeId} (h : W.heap[b]? = some (.cells #[v0, v1, v2, v3, v4] t)) :
    (W.cell? ⟨b, 0, none⟩ = some v0 ∧ W.cell? ⟨b, 1, none⟩ = some v1 ∧ W.cell? ⟨b, 2, none⟩ = some v2 ∧ W.cell? ⟨b, 3, none⟩ = some v3 ∧ W.cell? ⟨b, 4, none⟩ = some v4) ∧ ∀ i, W.frozen? ⟨b, i, none⟩ = false := by
  refine ⟨⟨?_, ?_, ?_, ?_, ?_⟩, fun i => ?_⟩ <;> simp [World.cell?, World.frozen?, h]
/-- All five are laid anew. -/
theorem set5 {W : World} {b : Nat} {v0 v1 v2 v3 v4 : Value} {t : TypeId} (h : W.heap[b]? = some (.cells #[v0, v1, v2, v3, v4] t)) (u0 u1 u2 u3 u4 : Value) :
    (((((W.setCell ⟨b, 0, none⟩ u0).setCell ⟨b, 1, none⟩ u1).setCell ⟨b, 2, none⟩ u2).setCell ⟨b, 3, none⟩ u3).setCell ⟨b, 4, none⟩ u4).heap[b]? = some (.cells #[u0, u1, u2, u3, u4] t) := by
  rw [heap_setCell_same _ b 4 _ t _ (heap_setCell_same _ b 3 _ t _ (heap_setCell_same _ b 2 _ t _ (heap_setCell_same _ b 1 _ t _ (heap_setCell_same _ b 0 _ t _ h))))]
  rfl
theorem below5 {W : World} {B b : Nat} (hb : B ≤ b) (u0 u1 u2 u3 u4 : Value) : Below B W (((((W.setCell ⟨b, 0, none⟩ u0).setCell ⟨b, 1, none⟩ u1).setCell ⟨b, 2, none⟩ u2).setCell ⟨b, 3, none⟩ u3).setCell ⟨b, 4, none⟩ u4) :=
  (((((Below.refl B W).setCell (p := ⟨b, 0, none⟩) hb u0).setCell (p := ⟨b, 1, none⟩) hb u1).setCell (p := ⟨b, 2, none⟩) hb u2).setCell (p := ⟨b, 3, none⟩) hb u3).setCell (p := ⟨b, 4, none⟩) hb u4
end Go.Proofs.Rw
namespace Go.Proofs.Ytienfdnlekfmmaa
open Go.RowKit Go.Shelf Go.Proofs.Rw Go.Proofs.Lh Go.Proofs.Bu

theorem info_event : (Try.prog.info? 33).map (fun i => (i.zero, i.size, i.bytes)) = some (some (.agg #[.int .u64 0, .int .u64 0, .int .u64 0]), 3, 24) := by kernel_rfl
theorem info_u64 : (Try.prog.info? 22).map (fun i => (i.zero, i.size, i.bytes)) = some (some (.int .u64 0), 1, 8) := by kernel_rfl
/-- A row of events of the call's own. -/
abbrev OwnE (w : World) (base : Nat) (v : Value) (xs : List Ev) : Prop := w.ownsRow base 33 3 v xs.length (evL.cells xs)
abbrev OwnN (w : World) (base : Nat) (v : Value) (xs : List Nat) : Prop := w.ownsRow base 22 1 v xs.length (nuL.cells xs)
/-- An event in a literal of one: what append is handed. -/
theorem lit_ev (T : TypeId) (W : World) (n : Nat) (hn : W.heap.size = n) (e : Ev) : Lies evL (W.alloc (.cells #[.int .u64 e.1, .int .u64 e.2.1, .int .u64 e.2.2] T)) (n + 1) (.slice (some ⟨n, 0, none⟩) 1 1) [e] := by
  subst hn
  refine ⟨_, 1, rfl, by simp, by unfold maxLen; omega, .inr ⟨W.heap.size, 0, by omega, rfl, fun j u hu => ?_⟩⟩
  rw [Nat.zero_add, cell_of_row _ _ _ #[.int .u64 e.1, .int .u64 e.2.1, .int .u64 e.2.2] T (0, 0) (heap_alloc_new W _)]
  rw [cells_one] at hu
  simpa [evL] using hu
/-- Two ticks, and one, in a literal. -/
theorem lit_two (T : TypeId) (W : World) (a b : Nat) : Lies nuL (W.alloc (.cells #[.int .u64 a, .int .u64 b] T)) (W.heap.size + 1) (.slice (some ⟨W.heap.size, 0, none⟩) 2 2) [a, b] := by
  refine ⟨_, 2, rfl, by simp, by unfold maxLen; omega, .inr ⟨W.heap.size, 0, by omega, rfl, fun j u hu => ?_⟩⟩
  rw [Nat.zero_add, cell_of_row _ _ _ #[.int .u64 a, .int .u64 b] T (0, 0) (heap_alloc_new W _)]
  simpa [Lay.cells, nuL] using hu
theorem lit_tick (T : TypeId) (W : World) (a : Nat) : Lies nuL (W.alloc (.cells #[.int .u64 a] T)) (W.heap.size + 1) (.slice (some ⟨W.heap.size, 0, none⟩) 1 1) [a] := by
  refine ⟨_, 1, rfl, by simp, by unfold maxLen; omega, .inr ⟨W.heap.size, 0, by omega, rfl, fun j u hu => ?_⟩⟩
  rw [Nat.zero_add, cell_of_row _ _ _ #[.int .u64 a] T (0, 0) (heap_alloc_new W _)]
  simpa [Lay.cells, nuL] using hu

/-! ### New, Conf -/

def confB (l r : Int) : Bool := decide (l ≤ 4611686018427387904) && (decide (1 ≤ r) && decide (r ≤ 1024))
theorem fin5 {W : World} {b : Nat} {v0 v1 v2 v3 v4 : Value} {t : TypeId} (h : W.heap[b]? = some (.cells #[v0, v1, v2, v3, v4] t)) (u0 u1 u2 u3 u4 : Value) :
    ∃ W5, (((((W.setCell ⟨b, 0, none⟩ u0).setCell ⟨b, 1, none⟩ u1).setCell ⟨b, 2, none⟩ u2).setCell ⟨b, 3, none⟩ u3).setCell ⟨b, 4, none⟩ u4) = W5 ∧ W5.heap[b]? = some (.cells #[u0, u1, u2, u3, u4] t) ∧ W.grownBy W5 (some b) := by
  refine ⟨_, rfl, set5 h u0 u1 u2 u3 u4, ?_⟩
  exact grown_trans (grown_trans (grown_trans (grown_trans (grown_set _ b 0 u0) (grown_set _ b 1 u1)) (grown_set _ b 2 u2)) (grown_set _ b 3 u3)) (grown_set _ b 4 u4)
theorem below_row {w W W' : World} {b : Nat} (h : Below w.heap.size w W) (hg : W.grownBy W' (some b)) (hb : w.heap.size ≤ b) : Below w.heap.size w W' := h.grown hg h.size fun k e => by cases e; exact hb

def newV (l r : Int) : Value := .tuple (if confB l r then #[bval l r 0 0 (.slice none 0 0), .int .i64 0] else #[bval 0 0 0 0 (.slice none 0 0), .int .i64 9])
theorem newV_yes {l r : Int} (h : confB l r = true) : newV l r = .tuple #[bval l r 0 0 (.slice none 0 0), .int .i64 0] := by simp [newV, h]
theorem newV_no {l r : Int} (h : confB l r = false) : newV l r = .tuple #[bval 0 0 0 0 (.slice none 0 0), .int .i64 9] := by simp [newV, h]
theorem bnew_any (l r : Int) (w : World) :
    Calls Try.prog 10 #[.int .u64 l, .int .i64 r] w fun e w' => e = .returned (newV l r) ∧ Below w.heap.size w w' := by
  cases hc : confB l r
  · rw [newV_no hc]
    by_cases h1 : l ≤ 4611686018427387904
    · by_cases h2 : 1 ≤ r
      · have h3 : ¬ r ≤ 1024 := fun h3 => by simp [confB, h1, h2, h3] at hc
        clear hc
        go_enter Try.func10, Try.ntmps10
        go_wp2
        refine bodyPost_ret (v := .tuple #[bval 0 0 0 0 (.slice none 0 0), .int .i64 9]) (by simp [results, Try.results10, go_sem]) rfl ⟨rfl, (Below.refl _ w).alloc (Nat.le_refl _) _⟩
      · clear hc
        go_enter Try.func10, Try.ntmps10
        go_wp2
        refine bodyPost_ret (v := .tuple #[bval 0 0 0 0 (.slice none 0 0), .int .i64 9]) (by simp [results, Try.results10, go_sem]) rfl ⟨rfl, (Below.refl _ w).alloc (Nat.le_refl _) _⟩
    · clear hc
      go_enter Try.func10, Try.ntmps10
      go_wp2
      refine bodyPost_ret (v := .tuple #[bval 0 0 0 0 (.slice none 0 0), .int .i64 9]) (by simp [results, Try.results10, go_sem]) rfl ⟨rfl, (Below.refl _ w).alloc (Nat.le_refl _) _⟩
  · rw [newV_yes hc]
    have h1 : l ≤ 4611686018427387904 := by simp [confB] at hc; omega
    have h2 : 1 ≤ r := by simp [confB] at hc; omega
    have h3 : r ≤ 1024 := by simp [confB] at hc; omega
    clear hc
    go_enter Try.func10, Try.ntmps10
    go_wp2
    refine bodyPost_ret (v := .tuple #[bval l r 0 0 (.slice none 0 0), .int .i64 0]) (by simp [results, Try.results10, go_sem]) rfl ⟨rfl, (Below.refl _ w).alloc (Nat.le_refl _) _⟩

theorem rconf_any (l r : Int) (w : World) : Calls Try.prog 19 #[.int .u64 l, .int .i64 r] w fun e w' => e = .returned (.bool (confB l r)) ∧ w = w' := by
  by_cases h1 : l ≤ 4611686018427387904
  · by_cases h2 : 1 ≤ r
    · by_cases h3 : r ≤ 1024
      · go_enter Try.func19, Try.ntmps19
        go_wp2
        go_ret
        exact ⟨ret_b (by simp [confB, h1, h2, h3]), rfl⟩
      · go_enter Try.func19, Try.ntmps19
        go_wp2
        go_ret
        exact ⟨ret_b (by simp [confB, h3]), rfl⟩
    · go_enter Try.func19, Try.ntmps19
      go_wp2
      go_ret
      exact ⟨ret_b (by simp [confB]; omega), rfl⟩
  · go_enter Try.func19, Try.ntmps19
    go_wp2
    go_ret
    exact ⟨ret_b (by simp [confB]; omega), rfl⟩

end Go.Proofs.Ytienfdnlekfmmaa
end
