/- Levels that are read alone: slices of slices in memory, of whatever blocks; and how they come in as an argument. -/
import Derived.Test.YtoplbjanemjebaaOpen
import Derived.Test.YtoplbjanemjebaaRowed3
namespace Go.Proofs.Rw
open Go Go.RowKit

/-- The slice value v holds slices that hold the levels ls, in blocks below B; nothing is said of the blocks' types. -/
def Reads (w : World) (B : Nat) (v : Value) (ls : List (List Sp)) : Prop :=
  NilOk v ∧ ∃ vs : List Value, Lies valL w B v vs ∧ vs.length = ls.length ∧ ∀ (i : Nat) (u : Value) (l : List Sp), vs[i]? = some u → ls[i]? = some l → Lies spL w B u l

section
variable {w w' : World} {B B' : Nat} {v : Value} {ls : List (List Sp)}
theorem Levs.reads (h : Levs w B v ls) : Reads w B v ls := by
  obtain ⟨h0, vs, h1, h2, _, h3⟩ := h
  exact ⟨h0, vs, h1, h2, fun i u l hu hl => (h3 i u l hu hl).1⟩
theorem Reads.keep (h : Reads w B v ls) (hk : ∀ b, b < B → w'.heap[b]? = w.heap[b]?) : Reads w' B v ls := by
  obtain ⟨h0, vs, h1, h2, h3⟩ := h
  exact ⟨h0, vs, h1.keep hk, h2, fun i u l hu hl => (h3 i u l hu hl).keep hk⟩
theorem Reads.below (h : Reads w B v ls) (hb : Below B w w') : Reads w' B v ls := h.keep hb.block
theorem Reads.mono (h : Reads w B v ls) (hB : B ≤ B') : Reads w B' v ls := by
  obtain ⟨h0, vs, h1, h2, h3⟩ := h
  exact ⟨h0, vs, h1.mono hB, h2, fun i u l hu hl => (h3 i u l hu hl).mono hB⟩
theorem Reads.grow (h : Reads w w.heap.size v ls) (hb : Below w.heap.size w w') : Reads w' w'.heap.size v ls := (h.below hb).mono hb.size
theorem Reads.alloc (h : Reads w B v ls) (hB : B ≤ w.heap.size) (o : Obj) : Reads (w.alloc o) B v ls := h.keep fun b hb => Below.heap_alloc w o b (by omega)
theorem Reads.form (h : Reads w B v ls) : ∃ A cap, v = .slice A ls.length cap ∧ ls.length ≤ cap ∧ cap ≤ maxLen ∧ Reads w B (.slice A ls.length cap) ls := by
  obtain ⟨h0, vs, h1, h2, h3⟩ := h
  obtain ⟨A, cap, hv, h4, h5, h6⟩ := h1.form
  rw [h2] at hv h4 h6
  rw [hv] at h0
  exact ⟨A, cap, hv, h4, h5, h0, vs, h6, h2, h3⟩
/-- The level i: its slice's cell, and what it holds. -/
theorem Reads.at {A : Option Addr} {len cap : Nat} (h : Reads w B (.slice A len cap) ls) (h0 : 0 < ls.length) : ∃ b off, A = some ⟨b, off, none⟩ ∧ b < B ∧ len = ls.length ∧
    ∀ i (hi : i < ls.length), ∃ Ai ci, w.cell? ⟨b, off + i, none⟩ = some (.slice Ai ls[i].length ci) ∧ ls[i].length ≤ ci ∧ ci ≤ maxLen ∧ Lies spL w B (.slice Ai ls[i].length ci) ls[i] := by
  obtain ⟨_, vs, h1, h2, h3⟩ := h
  obtain ⟨b, off, hA, hb, hl, hc⟩ := h1.addr (by omega)
  refine ⟨b, off, hA, hb, by omega, fun i hi => ?_⟩
  have hiv : i < vs.length := by omega
  have hL := h3 i vs[i] ls[i] (List.getElem?_eq_getElem hiv) (List.getElem?_eq_getElem hi)
  obtain ⟨Ai, ci, hu, h4, h5, h6⟩ := hL.form
  refine ⟨Ai, ci, ?_, h4, h5, h6⟩
  have := hc i hiv 0 vs[i] rfl
  rw [show i * valL.size + 0 = i by show i * 1 + 0 = i; omega, hu] at this
  exact this
end
end Go.Proofs.Rw
namespace Go.Proofs.Op
open Go Go.RowKit Go.ChangeShapes Go.WideShapes Go.Deep Go.Proofs.Rw

section
variable {H : Type} {enc : TypeId × Value → H} {P : Program} {w : World} {base : Nat} {spare : Nat → Bool} {held : Bool}

/-- Cells of levels that came in. -/
theorem open_levels {f : Nat} {t e1 e : TypeId} {fuel : Nat} {cs : List Value} {x : DataW H × List MemPlace} (ht : P.underlying t = some (.slice e1)) (ht1 : P.underlying e1 = some (.slice e)) (hc1 : P.cellsOf e1 = 1)
    (hk : kinds P f e = some [.u64, .u64]) (hC : P.cellsOf e = 2) (h : DataW.trod enc P w base spare held fuel t cs = some x) :
    ∃ (A : Option Addr) (c : Nat) (ls : List (List Sp)), cs = [.slice A ls.length c] ∧ Reads w w.heap.size (.slice A ls.length c) ls ∧ ∀ l ∈ ls, ∀ y ∈ l, y.1 < 18446744073709551616 ∧ y.2 < 18446744073709551616 := by
  rcases open_slice1 ht hc1 h with ⟨rfl, _⟩ | ⟨a, len, cap, m, n, V, D, Pl, rfl, _, hl, hm, hmm, _, hx⟩
  · exact ⟨none, 0, [], rfl, ⟨fun n c e => (by injection e with _ e1 e2; simp only [List.length_nil] at e1; omega), [], Lies.nil none 0 (by simp), rfl, fun i u l hu _ => (by simp at hu)⟩, by simp⟩
  · have hlm : len ≤ m := by rw [hmm]; split <;> omega
    have each : ∀ i, i < len → ∃ l : List Sp, Lies spL w w.heap.size (V i) l ∧ ∀ y ∈ l, y.1 < 18446744073709551616 ∧ y.2 < 18446744073709551616 := by
      intro i hi
      obtain ⟨_, ht'⟩ := hx i (by omega)
      have key : ∃ ai ni ci, V i = .slice ai ni ci := by
        rcases open_slice ht1 ht' with ⟨e, _⟩ | ⟨a', l', c', _, _, _, _, e, _⟩
        · injection e with e
          exact ⟨_, _, _, e⟩
        · injection e with e
          exact ⟨_, _, _, e⟩
      obtain ⟨ai, ni, ci, e⟩ := key
      rw [e] at ht'
      obtain ⟨z, hz⟩ := open_flats (f := f) (ks := [.u64, .u64]) ht1 hk hC (by decide) ⟨n, ht'⟩
      obtain ⟨xs, e1, e2, e3⟩ := sp_of_row hz
      exact ⟨xs, by rw [e]; exact e2, e3⟩
    rcases Nat.eq_zero_or_pos len with h0 | h0
    · subst h0
      exact ⟨some a, cap, [], rfl, ⟨fun n c e => (by cases e), [], Lies.nil _ _ hm, rfl, fun i u l hu _ => (by simp at hu)⟩, by simp⟩
    obtain ⟨b, off, spot⟩ := a
    have hs : spot = none := by
      have := (hx 0 (by omega)).1
      simpa [Addr.add] using World.cell?_spot this
    subst hs
    have hcell : ∀ i, i < len → w.cell? ⟨b, off + i, none⟩ = some (V i) := fun i hi => by
      have := (hx i (by omega)).1
      rwa [Go.WideShapes.add_plain] at this
    have hbl : b < w.heap.size := World.block_lt_of_cell? w _ (hcell 0 h0)
    have hall : ∃ ls : List (List Sp), ls.length = len ∧ ∀ i (hi : i < ls.length), Lies spL w w.heap.size (V i) ls[i] ∧ ∀ y ∈ ls[i], y.1 < 18446744073709551616 ∧ y.2 < 18446744073709551616 := by
      suffices g : ∀ k, k ≤ len → ∃ ls : List (List Sp), ls.length = k ∧ ∀ i (hi : i < ls.length), Lies spL w w.heap.size (V i) ls[i] ∧ ∀ y ∈ ls[i], y.1 < 18446744073709551616 ∧ y.2 < 18446744073709551616 from g len (Nat.le_refl _)
      intro k
      induction k with
      | zero => intro _; exact ⟨[], rfl, fun i hi => absurd hi (by simp)⟩
      | succ k ih =>
        intro hk'
        obtain ⟨ls, h1, h2⟩ := ih (by omega)
        obtain ⟨l, h3⟩ := each k (by omega)
        refine ⟨ls ++ [l], by simp [h1], fun i hi => ?_⟩
        rcases Nat.lt_or_ge i ls.length with h | h
        · rw [List.getElem_append_left h]
          exact h2 i h
        · have e : i = k := by simp at hi; omega
          subst e
          rw [List.getElem_append_right h]
          simpa [h1] using h3
    obtain ⟨ls, h1, h2⟩ := hall
    have hvl : ((List.range len).map V).length = len := by simp
    refine ⟨some ⟨b, off, none⟩, cap, ls, by rw [h1], ⟨fun n c e => (by cases e), (List.range len).map V, ?_, by rw [hvl, h1], fun i u l hu hl' => ?_⟩, fun l hlm' => ?_⟩
    · refine ⟨some ⟨b, off, none⟩, cap, by rw [hvl, h1], by rw [hvl]; exact hl, hm, .inr ⟨b, off, hbl, rfl, fun j u hu => ?_⟩⟩
      rw [valL_cells] at hu
      obtain ⟨hj, e⟩ := List.getElem?_eq_some_iff.1 hu
      rw [hvl] at hj
      rw [hcell j hj, ← e]
      simp
    · obtain ⟨hi, e⟩ := List.getElem?_eq_some_iff.1 hl'
      obtain ⟨hj, e'⟩ := List.getElem?_eq_some_iff.1 hu
      have := (h2 i hi).1
      rw [e] at this
      rw [← e']
      simpa using this
    · obtain ⟨i, hi, e⟩ := List.getElem_of_mem hlm'
      have := (h2 i hi).2
      rw [e] at this
      exact this

/-- A struct of two numbers and levels, by value. -/
theorem open_raw {f : Nat} {r : Reach} {b0 : Nat} {t e1 e : TypeId} {f0 f1 f2 : Field} {v : Value} {d : DataW H} {p : List MemPlace} (ht : P.underlying t = some (.struct #[f0, f1, f2])) (hs : P.cellsOf t = 3)
    (k0 : P.underlying f0.type = some (.int .i64)) (k1 : P.underlying f1.type = some (.int .i64)) (o : f0.offset = 0 ∧ f1.offset = 1 ∧ f2.offset = 2) (c : P.cellsOf f0.type = 1 ∧ P.cellsOf f1.type = 1 ∧ P.cellsOf f2.type = 1)
    (hl : P.underlying f2.type = some (.slice e1)) (hl1 : P.underlying e1 = some (.slice e)) (hc1 : P.cellsOf e1 = 1) (hk : kinds P f e = some [.u64, .u64]) (hC : P.cellsOf e = 2)
    (hv : Value.okWide P w r b0 t v) (h : DataW.Trod enc P w base spare held t v d p) :
    ∃ (k g : Int) (A : Option Addr) (cp : Nat) (ls : List (List Sp)), v = .agg #[.int .i64 k, .int .i64 g, .slice A ls.length cp] ∧ (Lit.int .i64 k).wf = true ∧ (Lit.int .i64 g).wf = true ∧ Reads w w.heap.size (.slice A ls.length cp) ls ∧ ∀ l ∈ ls, ∀ y ∈ l, y.1 < 18446744073709551616 ∧ y.2 < 18446744073709551616 := by
  obtain ⟨fuel, hf⟩ := h
  obtain ⟨cs, rfl, hsz⟩ := okWide_struct ht hv
  rw [hs] at hsz
  obtain ⟨xs, n, _, _, _, hxl, hfi⟩ := DataW.trod_struct ht hf
  obtain ⟨cl⟩ := cs
  simp only [List.size_toArray] at hsz
  match cl, hsz with
  | [u0, u1, u2], _ =>
    match xs, hxl with
    | [x0, x1, x2], _ =>
      have g0 := hfi 0 f0 rfl
      have g1 := hfi 1 f1 rfl
      have g2 := hfi 2 f2 rfl
      rw [o.1, c.1] at g0
      rw [o.2.1, c.2.1] at g1
      rw [o.2.2, c.2.2] at g2
      have h0 : DataW.trod enc P w base spare held n f0.type [u0] = some x0 := g0
      have h1 : DataW.trod enc P w base spare held n f1.type [u1] = some x1 := g1
      have h2 : DataW.trod enc P w base spare held n f2.type [u2] = some x2 := g2
      obtain ⟨k, e0, _, w0⟩ := DataW.trod_int k0 h0
      obtain ⟨g, e1', _, w1⟩ := DataW.trod_int k1 h1
      obtain ⟨A, cp, ls, e2, hr, hb⟩ := open_levels (f := f) hl hl1 hc1 hk hC h2
      injection e0 with e0
      injection e1' with e1'
      injection e2 with e2
      exact ⟨k, g, A, cp, ls, by rw [e0, e1', e2], w0, w1, hr, hb⟩

/-- A slice of slices of two numbers, by value. -/
theorem open_lists {f : Nat} {r : Reach} {b0 : Nat} {t e1 e : TypeId} {v : Value} {d : DataW H} {p : List MemPlace} (ht : P.underlying t = some (.slice e1)) (ht1 : P.underlying e1 = some (.slice e)) (hc1 : P.cellsOf e1 = 1)
    (hk : kinds P f e = some [.u64, .u64]) (hC : P.cellsOf e = 2) (hv : Value.okWide P w r b0 t v) (h : DataW.Trod enc P w base spare held t v d p) :
    ∃ (A : Option Addr) (cp : Nat) (ls : List (List Sp)), v = .slice A ls.length cp ∧ Reads w w.heap.size (.slice A ls.length cp) ls ∧ ∀ l ∈ ls, ∀ y ∈ l, y.1 < 18446744073709551616 ∧ y.2 < 18446744073709551616 := by
  obtain ⟨a, len, cap, rfl⟩ := okWide_slice ht hv
  obtain ⟨fuel, hf⟩ := h
  obtain ⟨A, cp, ls, e2, hr, hb⟩ := open_levels (f := f) ht ht1 hc1 hk hC hf
  simp only [Value.cells, List.cons.injEq, Value.slice.injEq, and_true] at e2
  obtain ⟨rfl, rfl, rfl⟩ := e2
  exact ⟨a, cap, ls, rfl, hr, hb⟩
/-- One slice of two numbers, as cells. -/
theorem open_list {f : Nat} {t e : TypeId} {fuel : Nat} {u : Value} {x : DataW H × List MemPlace} (ht : P.underlying t = some (.slice e)) (hk : kinds P f e = some [.u64, .u64]) (hC : P.cellsOf e = 2) (h : DataW.trod enc P w base spare held fuel t [u] = some x) :
    ∃ (A : Option Addr) (n c : Nat) (z : Nat → Nat → Int), u = .slice A n c ∧ FlatRow [.u64, .u64] w A n c z := by
  have key : ∃ ai ni ci, u = .slice ai ni ci := by
    rcases open_slice ht h with ⟨e, _⟩ | ⟨a', l', c', _, _, _, _, e, _⟩
    · injection e with e
      exact ⟨_, _, _, e⟩
    · injection e with e
      exact ⟨_, _, _, e⟩
  obtain ⟨ai, ni, ci, rfl⟩ := key
  obtain ⟨z, hz⟩ := open_flats (f := f) (ks := [.u64, .u64]) ht hk hC (by decide) ⟨fuel, h⟩
  exact ⟨ai, ni, ci, z, rfl, hz⟩
/-- A struct of a number, four slices of two numbers, and a small number, by value. -/
theorem open_tree {f : Nat} {r : Reach} {b0 : Nat} {t e1 e : TypeId} {f0 f1 f2 : Field} {v : Value} {d : DataW H} {p : List MemPlace} (ht : P.underlying t = some (.struct #[f0, f1, f2])) (hs : P.cellsOf t = 6)
    (k0 : P.underlying f0.type = some (.int .i64)) (k1 : P.underlying f1.type = some (.array 4 e1)) (k2 : P.underlying f2.type = some (.int .u8)) (o : f0.offset = 0 ∧ f1.offset = 1 ∧ f2.offset = 5) (c : P.cellsOf f0.type = 1 ∧ P.cellsOf f1.type = 4 ∧ P.cellsOf f2.type = 1)
    (hl1 : P.underlying e1 = some (.slice e)) (hc1 : P.cellsOf e1 = 1) (hk : kinds P f e = some [.u64, .u64]) (hC : P.cellsOf e = 2)
    (hv : Value.okWide P w r b0 t v) (h : DataW.Trod enc P w base spare held t v d p) :
    ∃ (k g : Int) (A : Fin 4 → Option Addr) (n c : Fin 4 → Nat) (z : Fin 4 → Nat → Nat → Int), v = .agg #[.int .i64 k, .slice (A 0) (n 0) (c 0), .slice (A 1) (n 1) (c 1), .slice (A 2) (n 2) (c 2), .slice (A 3) (n 3) (c 3), .int .u8 g] ∧
      (Lit.int .i64 k).wf = true ∧ (Lit.int .u8 g).wf = true ∧ ∀ j : Fin 4, FlatRow [.u64, .u64] w (A j) (n j) (c j) (z j) := by
  obtain ⟨fuel, hf⟩ := h
  obtain ⟨cs, rfl, hsz⟩ := okWide_struct ht hv
  rw [hs] at hsz
  obtain ⟨xs, m, _, _, _, hxl, hfi⟩ := DataW.trod_struct ht hf
  obtain ⟨cl⟩ := cs
  simp only [List.size_toArray] at hsz
  match cl, hsz with
  | [u0, u1, u2, u3, u4, u5], _ =>
    match xs, hxl with
    | [x0, x1, x2], _ =>
      have g0 := hfi 0 f0 rfl
      have g1 := hfi 1 f1 rfl
      have g2 := hfi 2 f2 rfl
      rw [o.1, c.1] at g0
      rw [o.2.1, c.2.1] at g1
      rw [o.2.2, c.2.2] at g2
      have h0 : DataW.trod enc P w base spare held m f0.type [u0] = some x0 := g0
      have h1 : DataW.trod enc P w base spare held m f1.type [u1, u2, u3, u4] = some x1 := g1
      have h2 : DataW.trod enc P w base spare held m f2.type [u5] = some x2 := g2
      obtain ⟨k, e0, _, w0⟩ := DataW.trod_int k0 h0
      obtain ⟨g, e5, _, w5⟩ := DataW.trod_int k2 h2
      obtain ⟨ys, m', _, _, _, hyl, hy⟩ := DataW.trod_array k1 h1
      rw [hc1] at hy
      match ys, hyl with
      | [y0, y1, y2, y3], _ =>
        have a0 : DataW.trod enc P w base spare held m' e1 [u1] = some y0 := hy 0 (by omega)
        have a1 : DataW.trod enc P w base spare held m' e1 [u2] = some y1 := hy 1 (by omega)
        have a2 : DataW.trod enc P w base spare held m' e1 [u3] = some y2 := hy 2 (by omega)
        have a3 : DataW.trod enc P w base spare held m' e1 [u4] = some y3 := hy 3 (by omega)
        obtain ⟨A0, n0, c0, z0, rfl, q0⟩ := open_list (f := f) hl1 hk hC a0
        obtain ⟨A1, n1, c1, z1, rfl, q1⟩ := open_list (f := f) hl1 hk hC a1
        obtain ⟨A2, n2, c2, z2, rfl, q2⟩ := open_list (f := f) hl1 hk hC a2
        obtain ⟨A3, n3, c3, z3, rfl, q3⟩ := open_list (f := f) hl1 hk hC a3
        injection e0 with e0
        injection e5 with e5
        refine ⟨k, g, fun j => [A0, A1, A2, A3][j.1]'j.2, fun j => [n0, n1, n2, n3][j.1]'j.2, fun j => [c0, c1, c2, c3][j.1]'j.2, fun j => [z0, z1, z2, z3][j.1]'j.2, by rw [e0, e5]; rfl, w0, w5, fun j => ?_⟩
        match j with
        | 0 => exact q0
        | 1 => exact q1
        | 2 => exact q2
        | 3 => exact q3
end
end Go.Proofs.Op
