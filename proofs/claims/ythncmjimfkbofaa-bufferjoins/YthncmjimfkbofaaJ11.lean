/- Rows of histograms and of events in memory. · Slices of slices of any elements that are read alone, and a struct of four numbers and a slice of events, as they come in as an argument. · Elements appended to a row of the call's own, at a step of a region that draws its order. · Buffers in memory: rows of events of the call's own, rows of ticks, a buffer as a value. -/
import Derived.Test.YthncmjimfkbofaaJ09
import Derived.Test.YthncmjimfkbofaaJ10
import Derived.Test.YthncmjimfkbofaaJ03
import Derived.Deep.RegionLaw
section
/- Rows of histograms and of events in memory. -/
namespace Go.Proofs.Rw
open Go Go.RowKit Go.Proofs.Lh

/-- A histogram, as it lies in a row: its numbers, its levels' slice, and what that holds. -/
structure Hx where
  k : Int
  g : Int
  A : Option Addr
  c : Nat
  ls : List (List Sp)
def Hx.m (x : Hx) : Hm := (x.k, x.g, x.ls)
def hxL : Lay Hx := ⟨3, fun x => [.int .i64 x.k, .int .i64 x.g, .slice x.A x.ls.length x.c], fun _ => rfl⟩
theorem hx_one (ys : List Hx) : ∀ y ∈ ys, ∀ u ∈ hxL.enc y, u.oneCell' = true := by
  intro y _ u hu
  simp only [hxL, List.mem_cons, List.not_mem_nil, or_false] at hu
  rcases hu with rfl | rfl | rfl <;> rfl
section
variable {w w' : World} {B B' : Nat} {v : Value} {xs : List Hx}
end

/-- Events. -/
def evL : Lay Ev := ⟨3, fun x => [.int .u64 x.1, .int .u64 x.2.1, .int .u64 x.2.2], fun _ => rfl⟩
theorem ev_one (ys : List Ev) : ∀ y ∈ ys, ∀ u ∈ evL.enc y, u.oneCell' = true := by
  intro y _ u hu
  simp only [evL, List.mem_cons, List.not_mem_nil, or_false] at hu
  rcases hu with rfl | rfl | rfl <;> rfl
theorem ev_at {w : World} {B : Nat} {A : Option Addr} {len cap : Nat} {xs : List Ev} (h : Lies evL w B (.slice A len cap) xs) (h0 : 0 < xs.length) : ∃ b off, A = some ⟨b, off, none⟩ ∧ b < B ∧ len = xs.length ∧
    ∀ i (hi : i < xs.length), w.cell? ⟨b, off + i * 3, none⟩ = some (.int .u64 xs[i].1) ∧ w.cell? ⟨b, off + i * 3 + 1, none⟩ = some (.int .u64 xs[i].2.1) ∧ w.cell? ⟨b, off + i * 3 + 2, none⟩ = some (.int .u64 xs[i].2.2) := by
  obtain ⟨b, off, hA, hb, hl, hc⟩ := h.addr h0
  refine ⟨b, off, hA, hb, hl, fun i hi => ⟨?_, ?_, ?_⟩⟩
  · exact hc i hi 0 _ rfl
  · exact hc i hi 1 _ rfl
  · exact hc i hi 2 _ rfl
/-- Events whose numbers fit. -/
def Fits3 (evs : List Ev) : Prop := ∀ e ∈ evs, e.1 < 18446744073709551616 ∧ e.2.1 < 18446744073709551616 ∧ e.2.2 < 18446744073709551616

/-- A slice of elements of three numbers that came in. -/
theorem ev_of_row {w : World} {A : Option Addr} {len cap : Nat} {z : Nat → Nat → Int} (h : Op.FlatRow [.u64, .u64, .u64] w A len cap z) :
    ∃ xs : List Ev, xs.length = len ∧ Lies evL w w.heap.size (.slice A len cap) xs ∧ Fits3 xs := by
  obtain ⟨h1, h2, h3⟩ := h
  have hl : ((List.range len).map fun i => ((z i 0).toNat, (z i 1).toNat, (z i 2).toNat)).length = len := by simp
  rcases h3 with rfl | ⟨b, off, rfl, hb, hc⟩
  · exact ⟨[], rfl, Lies.nil A cap h2, by intro e he; cases he⟩
  have key : ∀ i, i < len → 0 ≤ z i 0 ∧ z i 0 < 18446744073709551616 ∧ 0 ≤ z i 1 ∧ z i 1 < 18446744073709551616 ∧ 0 ≤ z i 2 ∧ z i 2 < 18446744073709551616 := by
    intro i hi
    obtain ⟨a0, a1⟩ := bounds_u64 (hc i hi 0 .u64 rfl).2
    obtain ⟨b0, b1⟩ := bounds_u64 (hc i hi 1 .u64 rfl).2
    obtain ⟨c0, c1⟩ := bounds_u64 (hc i hi 2 .u64 rfl).2
    omega
  refine ⟨(List.range len).map fun i => ((z i 0).toNat, (z i 1).toNat, (z i 2).toNat), hl, ⟨_, cap, by rw [hl], by rw [hl]; exact h1, h2, .inr ⟨b, off, hb, rfl, fun j u hu => ?_⟩⟩, fun x hx => ?_⟩
  · have hj : j < len * 3 := by
      have := (List.getElem?_eq_some_iff.1 hu).1
      rw [cells_len, hl] at this
      exact this
    obtain ⟨i, k, hk, rfl⟩ : ∃ i k, k < 3 ∧ j = i * 3 + k := ⟨j / 3, j % 3, by omega, by omega⟩
    have e := cells_at evL ((List.range len).map fun i => ((z i 0).toNat, (z i 1).toNat, (z i 2).toNat)) i k (by rw [hl]; omega) hk
    rw [show evL.size = 3 from rfl] at e
    rw [e] at hu
    simp only [List.getElem_map, List.getElem_range, evL] at hu
    have hk4 := key i (by omega)
    rcases k with _ | _ | _ | k
    · have h4 := (hc i (by omega) 0 .u64 rfl).1
      simp only [List.length_cons, List.length_nil] at h4
      rw [h4, ← hu]
      simp
      omega
    · have h4 := (hc i (by omega) 1 .u64 rfl).1
      simp only [List.length_cons, List.length_nil] at h4
      rw [h4, ← hu]
      simp
      omega
    · have h4 := (hc i (by omega) 2 .u64 rfl).1
      simp only [List.length_cons, List.length_nil] at h4
      rw [h4, ← hu]
      simp
      omega
    · omega
  · obtain ⟨i, hi, rfl⟩ := List.mem_map.1 hx
    have := key i (List.mem_range.1 hi)
    refine ⟨?_, ?_, ?_⟩ <;> simp only <;> omega

end Go.Proofs.Rw
namespace Go.Proofs.Ythncmjimfkbofaa
open Go.RowKit Go.Shelf Go.Proofs.Rw Go.Proofs.Lh

/-- A row of lumps of the call's own. -/
abbrev OwnT (T : TypeId) (w : World) (base : Nat) (v : Value) (xs : List Sp) : Prop := w.ownsRow base T 2 v xs.length (spL.cells xs)
abbrev OwnH (T : TypeId) (w : World) (base : Nat) (v : Value) (xs : List Hx) : Prop := w.ownsRow base T 3 v xs.length (hxL.cells xs)
/-- A lump in a literal of one: what append is handed. -/
theorem lit_lump (T : TypeId) (W : World) (n : Nat) (hn : W.heap.size = n) (a b : Nat) : Lies spL (W.alloc (.cells #[.int .u64 a, .int .u64 b] T)) (n + 1) (.slice (some ⟨n, 0, none⟩) 1 1) [(a, b)] := by
  subst hn
  refine ⟨_, 1, rfl, by simp, by unfold maxLen; omega, .inr ⟨W.heap.size, 0, by omega, rfl, fun j u hu => ?_⟩⟩
  rw [Nat.zero_add, cell_of_row _ _ _ #[.int .u64 a, .int .u64 b] T (0, 0) (heap_alloc_new W _)]
  rw [cells_one] at hu
  simpa [spL] using hu
theorem lit_hist (T : TypeId) (W : World) (n : Nat) (hn : W.heap.size = n) (x : Hx) : Lies hxL (W.alloc (.cells #[.int .i64 x.k, .int .i64 x.g, .slice x.A x.ls.length x.c] T)) (n + 1) (.slice (some ⟨n, 0, none⟩) 1 1) [x] := by
  subst hn
  refine ⟨_, 1, rfl, by simp, by unfold maxLen; omega, .inr ⟨W.heap.size, 0, by omega, rfl, fun j u hu => ?_⟩⟩
  rw [Nat.zero_add, cell_of_row _ _ _ #[.int .i64 x.k, .int .i64 x.g, .slice x.A x.ls.length x.c] T (0, 0) (heap_alloc_new W _)]
  rw [cells_one] at hu
  simpa [hxL] using hu

end Go.Proofs.Ythncmjimfkbofaa
end
section
/- Slices of slices of any elements that are read alone, and a struct of four numbers and a slice of events, as they come in as an argument. -/
namespace Go.Proofs.Rw
open Go Go.RowKit Go.Proofs.Lh

/-- The slice value v holds slices that hold the lists ls, in blocks below B. -/
def ReadsG {α : Type} (L : Lay α) (w : World) (B : Nat) (v : Value) (ls : List (List α)) : Prop :=
  NilOk v ∧ ∃ vs : List Value, Lies valL w B v vs ∧ vs.length = ls.length ∧ ∀ (i : Nat) (u : Value) (l : List α), vs[i]? = some u → ls[i]? = some l → Lies L w B u l

section
variable {α : Type} {L : Lay α} {w w' : World} {B B' : Nat} {v : Value} {ls : List (List α)}
theorem ReadsG.keep (h : ReadsG L w B v ls) (hk : ∀ b, b < B → w'.heap[b]? = w.heap[b]?) : ReadsG L w' B v ls := by
  obtain ⟨h0, vs, h1, h2, h3⟩ := h
  exact ⟨h0, vs, h1.keep hk, h2, fun i u l hu hl => (h3 i u l hu hl).keep hk⟩
theorem ReadsG.below (h : ReadsG L w B v ls) (hb : Below B w w') : ReadsG L w' B v ls := h.keep hb.block
theorem ReadsG.mono (h : ReadsG L w B v ls) (hB : B ≤ B') : ReadsG L w B' v ls := by
  obtain ⟨h0, vs, h1, h2, h3⟩ := h
  exact ⟨h0, vs, h1.mono hB, h2, fun i u l hu hl => (h3 i u l hu hl).mono hB⟩
theorem ReadsG.grow (h : ReadsG L w w.heap.size v ls) (hb : Below w.heap.size w w') : ReadsG L w' w'.heap.size v ls := (h.below hb).mono hb.size
theorem ReadsG.form (h : ReadsG L w B v ls) : ∃ A cap, v = .slice A ls.length cap ∧ ls.length ≤ cap ∧ cap ≤ maxLen ∧ ReadsG L w B (.slice A ls.length cap) ls := by
  obtain ⟨h0, vs, h1, h2, h3⟩ := h
  obtain ⟨A, cap, hv, h4, h5, h6⟩ := h1.form
  rw [h2] at hv h4 h6
  rw [hv] at h0
  exact ⟨A, cap, hv, h4, h5, h0, vs, h6, h2, h3⟩
theorem ReadsG.at {A : Option Addr} {len cap : Nat} (h : ReadsG L w B (.slice A len cap) ls) (h0 : 0 < ls.length) : ∃ b off, A = some ⟨b, off, none⟩ ∧ b < B ∧ len = ls.length ∧
    ∀ i (hi : i < ls.length), ∃ Ai ci, w.cell? ⟨b, off + i, none⟩ = some (.slice Ai ls[i].length ci) ∧ ls[i].length ≤ ci ∧ ci ≤ maxLen ∧ Lies L w B (.slice Ai ls[i].length ci) ls[i] := by
  obtain ⟨_, vs, h1, h2, h3⟩ := h
  obtain ⟨b, off, hA, hb, hl, hc⟩ := h1.addr (by omega)
  refine ⟨b, off, hA, hb, by omega, fun i hi => ?_⟩
  have hiv : i < vs.length := by omega
  have hL := h3 i vs[i] ls[i] (List.getElem?_eq_getElem hiv) (List.getElem?_eq_getElem hi)
  obtain ⟨Ai, ci, hu, h4, h5, h6⟩ := hL.form
  refine ⟨Ai, ci, ?_, h4, h5, h6⟩
  have := hc i hiv 0 vs[i] rfl
  rw [show i * valL.size + 0 = i by show i * 1 + 0 = i; omega, hu] at this
  exact this
end
end Go.Proofs.Rw
namespace Go.Proofs.Op
open Go Go.RowKit Go.ChangeShapes Go.WideShapes Go.Deep Go.Proofs.Rw Go.Proofs.Lh

section
variable {H : Type} {enc : TypeId × Value → H} {P : Program} {w : World} {base : Nat} {spare : Nat → Bool} {held : Bool}

/-- Cells of lists that came in. -/
theorem open_levelsG {α : Type} {L : Lay α} {F : α → Prop} {ks : List IntKind} {n0 f : Nat} {t e1 e : TypeId} {fuel : Nat} {cs : List Value} {x : DataW H × List MemPlace} (ht : P.underlying t = some (.slice e1)) (ht1 : P.underlying e1 = some (.slice e)) (hc1 : P.cellsOf e1 = 1)
    (hk : kinds P f e = some ks) (hC : P.cellsOf e = n0) (hn0 : n0 = ks.length) (h0n : 0 < ks.length) (row : ∀ (A : Option Addr) (len cap : Nat) (z : Nat → Nat → Int), FlatRow ks w A len cap z → ∃ xs : List α, xs.length = len ∧ Lies L w w.heap.size (.slice A len cap) xs ∧ ∀ y ∈ xs, F y)
    (h : DataW.trod enc P w base spare held fuel t cs = some x) :
    ∃ (A : Option Addr) (c : Nat) (ls : List (List α)), cs = [.slice A ls.length c] ∧ ReadsG L w w.heap.size (.slice A ls.length c) ls ∧ ∀ l ∈ ls, ∀ y ∈ l, F y := by
  subst hn0
  rcases open_slice1 ht hc1 h with ⟨rfl, _⟩ | ⟨a, len, cap, m, n, V, D, Pl, rfl, _, hl, hm, hmm, _, hx⟩
  · exact ⟨none, 0, [], rfl, ⟨fun n c e => (by injection e with _ e1 e2; simp only [List.length_nil] at e1; omega), [], Lies.nil none 0 (by simp), rfl, fun i u l hu _ => (by simp at hu)⟩, by simp⟩
  · have hlm : len ≤ m := by rw [hmm]; split <;> omega
    have each : ∀ i, i < len → ∃ l : List α, Lies L w w.heap.size (V i) l ∧ ∀ y ∈ l, F y := by
      intro i hi
      obtain ⟨_, ht'⟩ := hx i (by omega)
      have key : ∃ ai ni ci, V i = .slice ai ni ci := by
        rcases open_slice ht1 ht' with ⟨e, _⟩ | ⟨a', l', c', _, _, _, _, e, _⟩
        · injection e with e
          exact ⟨_, _, _, e⟩
        · injection e with e
          exact ⟨_, _, _, e⟩
      obtain ⟨ai, ni, ci, e⟩ := key
      rw [e] at ht'
      obtain ⟨z, hz⟩ := open_flats (f := f) (ks := ks) ht1 hk hC h0n ⟨n, ht'⟩
      obtain ⟨xs, e1, e2, e3⟩ := row _ _ _ _ hz
      exact ⟨xs, by rw [e]; exact e2, e3⟩
    rcases Nat.eq_zero_or_pos len with h0 | h0
    · subst h0
      exact ⟨some a, cap, [], rfl, ⟨fun n c e => (by cases e), [], Lies.nil _ _ hm, rfl, fun i u l hu _ => (by simp at hu)⟩, by simp⟩
    obtain ⟨b, off, spot⟩ := a
    have hs : spot = none := by
      have := (hx 0 (by omega)).1
      simpa [Addr.add] using World.cell?_spot this
    subst hs
    have hcell : ∀ i, i < len → w.cell? ⟨b, off + i, none⟩ = some (V i) := fun i hi => by
      have := (hx i (by omega)).1
      rwa [Go.WideShapes.add_plain] at this
    have hbl : b < w.heap.size := World.block_lt_of_cell? w _ (hcell 0 h0)
    have hall : ∃ ls : List (List α), ls.length = len ∧ ∀ i (hi : i < ls.length), Lies L w w.heap.size (V i) ls[i] ∧ ∀ y ∈ ls[i], F y := by
      suffices g : ∀ k, k ≤ len → ∃ ls : List (List α), ls.length = k ∧ ∀ i (hi : i < ls.length), Lies L w w.heap.size (V i) ls[i] ∧ ∀ y ∈ ls[i], F y from g len (Nat.le_refl _)
      intro k
      induction k with
      | zero => intro _; exact ⟨[], rfl, fun i hi => absurd hi (by simp)⟩
      | succ k ih =>
        intro hk'
        obtain ⟨ls, h1, h2⟩ := ih (by omega)
        obtain ⟨l, h3⟩ := each k (by omega)
        refine ⟨ls ++ [l], by simp [h1], fun i hi => ?_⟩
        rcases Nat.lt_or_ge i ls.length with h | h
        · rw [List.getElem_append_left h]
          exact h2 i h
        · have e : i = k := by simp at hi; omega
          subst e
          rw [List.getElem_append_right h]
          simpa [h1] using h3
    obtain ⟨ls, h1, h2⟩ := hall
    have hvl : ((List.range len).map V).length = len := by simp
    refine ⟨some ⟨b, off, none⟩, cap, ls, by rw [h1], ⟨fun n c e => (by cases e), (List.range len).map V, ?_, by rw [hvl, h1], fun i u l hu hl' => ?_⟩, fun l hlm' => ?_⟩
    · refine ⟨some ⟨b, off, none⟩, cap, by rw [hvl, h1], by rw [hvl]; exact hl, hm, .inr ⟨b, off, hbl, rfl, fun j u hu => ?_⟩⟩
      rw [valL_cells] at hu
      obtain ⟨hj, e⟩ := List.getElem?_eq_some_iff.1 hu
      rw [hvl] at hj
      rw [hcell j hj, ← e]
      simp
    · obtain ⟨hi, e⟩ := List.getElem?_eq_some_iff.1 hl'
      obtain ⟨hj, e'⟩ := List.getElem?_eq_some_iff.1 hu
      have := (h2 i hi).1
      rw [e] at this
      rw [← e']
      simpa using this
    · obtain ⟨i, hi, e⟩ := List.getElem_of_mem hlm'
      have := (h2 i hi).2
      rw [e] at this
      exact this
/-- A slice of slices of three numbers, by value. -/
theorem open_lists3 {f : Nat} {r : Reach} {b0 : Nat} {t e1 e : TypeId} {v : Value} {d : DataW H} {p : List MemPlace} (ht : P.underlying t = some (.slice e1)) (ht1 : P.underlying e1 = some (.slice e)) (hc1 : P.cellsOf e1 = 1)
    (hk : kinds P f e = some [.u64, .u64, .u64]) (hC : P.cellsOf e = 3) (hv : Value.okWide P w r b0 t v) (h : DataW.Trod enc P w base spare held t v d p) :
    ∃ (A : Option Addr) (cp : Nat) (ls : List (List Ev)), v = .slice A ls.length cp ∧ ReadsG evL w w.heap.size (.slice A ls.length cp) ls ∧ ∀ l ∈ ls, Fits3 l := by
  obtain ⟨a, len, cap, rfl⟩ := okWide_slice ht hv
  obtain ⟨fuel, hf⟩ := h
  obtain ⟨A, cp, ls, e2, hr, hb⟩ := open_levelsG (L := evL) (F := fun e => e.1 < 18446744073709551616 ∧ e.2.1 < 18446744073709551616 ∧ e.2.2 < 18446744073709551616) (f := f) ht ht1 hc1 hk hC rfl (by decide) (fun _ _ _ _ hz => ev_of_row hz) hf
  simp only [Value.cells, List.cons.injEq, Value.slice.injEq, and_true] at e2
  obtain ⟨rfl, rfl, rfl⟩ := e2
  exact ⟨a, cap, ls, rfl, hr, hb⟩
/-- A struct of four numbers and a slice of three numbers each, by value. -/
theorem open_buf {f : Nat} {r : Reach} {b0 : Nat} {t e : TypeId} {f0 f1 f2 f3 f4 : Field} {v : Value} {d : DataW H} {p : List MemPlace} (ht : P.underlying t = some (.struct #[f0, f1, f2, f3, f4])) (hs : P.cellsOf t = 5)
    (k0 : P.underlying f0.type = some (.int .u64)) (k1 : P.underlying f1.type = some (.int .i64)) (k2 : P.underlying f2.type = some (.int .u64)) (k3 : P.underlying f3.type = some (.int .u64)) (hl : P.underlying f4.type = some (.slice e))
    (o : f0.offset = 0 ∧ f1.offset = 1 ∧ f2.offset = 2 ∧ f3.offset = 3 ∧ f4.offset = 4) (c : P.cellsOf f0.type = 1 ∧ P.cellsOf f1.type = 1 ∧ P.cellsOf f2.type = 1 ∧ P.cellsOf f3.type = 1 ∧ P.cellsOf f4.type = 1)
    (hk : kinds P f e = some [.u64, .u64, .u64]) (hC : P.cellsOf e = 3) (hv : Value.okWide P w r b0 t v) (h : DataW.Trod enc P w base spare held t v d p) :
    ∃ (a0 a1 a2 a3 : Int) (A : Option Addr) (n cp : Nat) (z : Nat → Nat → Int), v = .agg #[.int .u64 a0, .int .i64 a1, .int .u64 a2, .int .u64 a3, .slice A n cp] ∧ (Lit.int .u64 a0).wf = true ∧ (Lit.int .i64 a1).wf = true ∧ (Lit.int .u64 a2).wf = true ∧ (Lit.int .u64 a3).wf = true ∧ FlatRow [.u64, .u64, .u64] w A n cp z := by
  obtain ⟨fuel, hf⟩ := h
  obtain ⟨cs, rfl, hsz⟩ := okWide_struct ht hv
  rw [hs] at hsz
  obtain ⟨xs, n, _, _, _, hxl, hfi⟩ := DataW.trod_struct ht hf
  obtain ⟨cl⟩ := cs
  simp only [List.size_toArray] at hsz
  match cl, hsz with
  | [u0, u1, u2, u3, u4], _ =>
    match xs, hxl with
    | [x0, x1, x2, x3, x4], _ =>
      have g0 := hfi 0 f0 rfl
      have g1 := hfi 1 f1 rfl
      have g2 := hfi 2 f2 rfl
      have g3 := hfi 3 f3 rfl
      have g4 := hfi 4 f4 rfl
      rw [o.1, c.1] at g0
      rw [o.2.1, c.2.1] at g1
      rw [o.2.2.1, c.2.2.1] at g2
      rw [o.2.2.2.1, c.2.2.2.1] at g3
      rw [o.2.2.2.2, c.2.2.2.2] at g4
      have h0 : DataW.trod enc P w base spare held n f0.type [u0] = some x0 := g0
      have h1 : DataW.trod enc P w base spare held n f1.type [u1] = some x1 := g1
      have h2 : DataW.trod enc P w base spare held n f2.type [u2] = some x2 := g2
      have h3 : DataW.trod enc P w base spare held n f3.type [u3] = some x3 := g3
      have h4 : DataW.trod enc P w base spare held n f4.type [u4] = some x4 := g4
      obtain ⟨a0, e0, _, w0⟩ := DataW.trod_int k0 h0
      obtain ⟨a1, e1, _, w1⟩ := DataW.trod_int k1 h1
      obtain ⟨a2, e2, _, w2⟩ := DataW.trod_int k2 h2
      obtain ⟨a3, e3, _, w3⟩ := DataW.trod_int k3 h3
      have key : ∃ ai ni ci, u4 = .slice ai ni ci := by
        rcases open_slice hl h4 with ⟨e, _⟩ | ⟨a', l', c', _, _, _, _, e, _⟩
        · injection e with e
          exact ⟨_, _, _, e⟩
        · injection e with e
          exact ⟨_, _, _, e⟩
      obtain ⟨ai, ni, ci, rfl⟩ := key
      obtain ⟨z, hz⟩ := open_flats (f := f) (ks := [.u64, .u64, .u64]) hl hk hC (by decide) ⟨n, h4⟩
      injection e0 with e0
      injection e1 with e1
      injection e2 with e2
      injection e3 with e3
      exact ⟨a0, a1, a2, a3, ai, ni, ci, z, by rw [e0, e1, e2, e3], w0, w1, w2, w3, hz⟩
end
end Go.Proofs.Op
end
section
/- Elements appended to a row of the call's own, at a step of a region that draws its order. -/
namespace Go.Proofs.Rw
open Go Go.RowKit
variable {α : Type} {L : Lay α}

theorem step_app {P : Program} (e : TypeId) (z : Value) (bytes : Nat) {t : TypeId} (hinfo : (P.info? e).map (fun i => (i.zero, i.size, i.bytes)) = some (some z, L.size, bytes)) (ht : P.underlying t = some (.slice e)) (hz : z.cells.size = L.size) (hsz : 0 < L.size) (hby : bytes ≤ 1000)
    {w : World} {ops : Array Oper} {o : Oper} {a : Act} {K : Act → World → Prop} {Q : Exit → Act → World → Prop} {E : Prop} (hgd : o.guard = none) (s x : Operand)
    (hop : o.op = Op.call { callee := Callee.builtin Builtin.append, args := #[s, x], argTypes := #[t, t] }) (base : Nat) (v u : Value) (xs ys : List α) (B : Nat) (hs : a.eval s = v) (hown : w.ownsRow base e L.size v xs.length (L.cells xs))
    (hx : a.eval x = u) (hu : Lies L w B u ys) (h1 : ∀ y ∈ ys, ∀ u ∈ L.enc y, u.oneCell' = true) (hb : xs.length + ys.length ≤ 10000000) (hbase : base ≤ w.heap.size)
    (hK : ∀ v' w', w'.ownsRow base e L.size v' (xs ++ ys).length (L.cells (xs ++ ys)) → w.grownBy w' v.ownBlock → K (a.put o.dst v') w') :
    if Region.wanted o (yielded ops a.tmps) = true then Oper.wp P o a w K Q else E := by
  have hw : Region.wanted o (yielded ops a.tmps) = true := by simp [Region.wanted, hgd]
  rw [if_pos hw]
  obtain ⟨v', w', hr, h2, h3⟩ := run_app t o.type e z bytes hinfo ht hz hsz hby w hown hu h1 hb hbase
  unfold Oper.wp execOp
  simp only [hop, resolve, invoke, builtin, Sem.run_bind, Sem.run_pure, Result.andThen_ok, List.map_toArray, List.map_cons, List.map_nil, hs, hx, hr]
  exact hK v' w' h2 h3

/-- A lump in a literal of one. -/
theorem lit_lump' (T : TypeId) (W : World) (n : Nat) (hn : W.heap.size = n) (a b : Nat) (v : Int) (hv : v = (b : Int)) : Lies spL (W.alloc (.cells #[.int .u64 a, .int .u64 v] T)) (n + 1) (.slice (some ⟨n, 0, none⟩) 1 1) [(a, b)] := by
  subst hv hn
  refine ⟨_, 1, rfl, by simp, by unfold maxLen; omega, .inr ⟨W.heap.size, 0, by omega, rfl, fun j u hu => ?_⟩⟩
  rw [Nat.zero_add, cell_of_row _ _ _ #[.int .u64 a, .int .u64 b] T (0, 0) (heap_alloc_new W _)]
  rw [cells_one] at hu
  simpa [spL] using hu

end Go.Proofs.Rw
end
section
/- Buffers in memory: rows of events of the call's own, rows of ticks, a buffer as a value. -/
set_option linter.unusedVariables false
namespace Go.Proofs.Rw
open Go Go.RowKit Go.Proofs.Lh Go.Proofs.Bu

/-- Numbers. -/
def nuL : Lay Nat := ⟨1, fun x => [.int .u64 x], fun _ => rfl⟩
theorem nu_one (ys : List Nat) : ∀ y ∈ ys, ∀ u ∈ nuL.enc y, u.oneCell' = true := by
  intro y _ u hu
  simp only [nuL, List.mem_cons, List.not_mem_nil, or_false] at hu
  subst hu
  rfl
theorem nu_at {w : World} {B : Nat} {A : Option Addr} {len cap : Nat} {xs : List Nat} (h : Lies nuL w B (.slice A len cap) xs) (h0 : 0 < xs.length) : ∃ b off, A = some ⟨b, off, none⟩ ∧ b < B ∧ len = xs.length ∧
    ∀ i (hi : i < xs.length), w.cell? ⟨b, off + i, none⟩ = some (.int .u64 xs[i]) := by
  obtain ⟨b, off, hA, hb, hl, hc⟩ := h.addr h0
  refine ⟨b, off, hA, hb, hl, fun i hi => ?_⟩
  have := hc i hi 0 _ rfl
  rwa [show i * nuL.size + 0 = i by show i * 1 + 0 = i; omega] at this

/-- A buffer as a value. -/
abbrev bval (l r m f : Int) (s : Value) : Value := .agg #[.int .u64 l, .int .i64 r, .int .u64 m, .int .u64 f, s]
abbrev bufV (b : Bf) (A : Option Addr) (c : Nat) : Value := bval (b.late : Int) (b.room : Int) (b.mark : Int) (b.front : Int) (.slice A b.evs.length c)

/-- A buffer's variable: five cells. -/
theorem box5 {W : World} {b : Nat} {v0 v1 v2 v3 v4 : Value} {t : TypeId} (h : W.heap[b]? = some (.cells #[v0, v1, v2, v3, v4] t)) :
    (W.cell? ⟨b, 0, none⟩ = some v0 ∧ W.cell? ⟨b, 1, none⟩ = some v1 ∧ W.cell? ⟨b, 2, none⟩ = some v2 ∧ W.cell? ⟨b, 3, none⟩ = some v3 ∧ W.cell? ⟨b, 4, none⟩ = some v4) ∧ ∀ i, W.frozen? ⟨b, i, none⟩ = false := by
  refine ⟨⟨?_, ?_, ?_, ?_, ?_⟩, fun i => ?_⟩ <;> simp [World.cell?, World.frozen?, h]
/-- All five are laid anew. -/
theorem set5 {W : World} {b : Nat} {v0 v1 v2 v3 v4 : Value} {t : TypeId} (h : W.heap[b]? = some (.cells #[v0, v1, v2, v3, v4] t)) (u0 u1 u2 u3 u4 : Value) :
    (((((W.setCell ⟨b, 0, none⟩ u0).setCell ⟨b, 1, none⟩ u1).setCell ⟨b, 2, none⟩ u2).setCell ⟨b, 3, none⟩ u3).setCell ⟨b, 4, none⟩ u4).heap[b]? = some (.cells #[u0, u1, u2, u3, u4] t) := by
  rw [heap_setCell_same _ b 4 _ t _ (heap_setCell_same _ b 3 _ t _ (heap_setCell_same _ b 2 _ t _ (heap_setCell_same _ b 1 _ t _ (heap_setCell_same _ b 0 _ t _ h))))]
  rfl
theorem below5 {W : World} {B b : Nat} (hb : B ≤ b) (u0 u1 u2 u3 u4 : Value) : Below B W (((((W.setCell ⟨b, 0, none⟩ u0).setCell ⟨b, 1, none⟩ u1).setCell ⟨b, 2, none⟩ u2).setCell ⟨b, 3, none⟩ u3).setCell ⟨b, 4, none⟩ u4) :=
  (((((Below.refl B W).setCell (p := ⟨b, 0, none⟩) hb u0).setCell (p := ⟨b, 1, none⟩) hb u1).setCell (p := ⟨b, 2, none⟩) hb u2).setCell (p := ⟨b, 3, none⟩) hb u3).setCell (p := ⟨b, 4, none⟩) hb u4
end Go.Proofs.Rw
namespace Go.Proofs.Ythncmjimfkbofaa
open Go.RowKit Go.Shelf Go.Proofs.Rw Go.Proofs.Lh Go.Proofs.Bu

theorem info_event : (Try.prog.info? 41).map (fun i => (i.zero, i.size, i.bytes)) = some (some (.agg #[.int .u64 0, .int .u64 0, .int .u64 0]), 3, 24) := by kernel_rfl
theorem info_u64 : (Try.prog.info? 22).map (fun i => (i.zero, i.size, i.bytes)) = some (some (.int .u64 0), 1, 8) := by kernel_rfl
/-- A row of events of the call's own. -/
abbrev OwnE (w : World) (base : Nat) (v : Value) (xs : List Ev) : Prop := w.ownsRow base 41 3 v xs.length (evL.cells xs)
abbrev OwnN (w : World) (base : Nat) (v : Value) (xs : List Nat) : Prop := w.ownsRow base 22 1 v xs.length (nuL.cells xs)
/-- An event in a literal of one: what append is handed. -/
theorem lit_ev (T : TypeId) (W : World) (n : Nat) (hn : W.heap.size = n) (e : Ev) : Lies evL (W.alloc (.cells #[.int .u64 e.1, .int .u64 e.2.1, .int .u64 e.2.2] T)) (n + 1) (.slice (some ⟨n, 0, none⟩) 1 1) [e] := by
  subst hn
  refine ⟨_, 1, rfl, by simp, by unfold maxLen; omega, .inr ⟨W.heap.size, 0, by omega, rfl, fun j u hu => ?_⟩⟩
  rw [Nat.zero_add, cell_of_row _ _ _ #[.int .u64 e.1, .int .u64 e.2.1, .int .u64 e.2.2] T (0, 0) (heap_alloc_new W _)]
  rw [cells_one] at hu
  simpa [evL] using hu
/-- Two ticks, and one, in a literal. -/
theorem lit_two (T : TypeId) (W : World) (a b : Nat) : Lies nuL (W.alloc (.cells #[.int .u64 a, .int .u64 b] T)) (W.heap.size + 1) (.slice (some ⟨W.heap.size, 0, none⟩) 2 2) [a, b] := by
  refine ⟨_, 2, rfl, by simp, by unfold maxLen; omega, .inr ⟨W.heap.size, 0, by omega, rfl, fun j u hu => ?_⟩⟩
  rw [Nat.zero_add, cell_of_row _ _ _ #[.int .u64 a, .int .u64 b] T (0, 0) (heap_alloc_new W _)]
  simpa [Lay.cells, nuL] using hu
theorem lit_tick (T : TypeId) (W : World) (a : Nat) : Lies nuL (W.alloc (.cells #[.int .u64 a] T)) (W.heap.size + 1) (.slice (some ⟨W.heap.size, 0, none⟩) 1 1) [a] := by
  refine ⟨_, 1, rfl, by simp, by unfold maxLen; omega, .inr ⟨W.heap.size, 0, by omega, rfl, fun j u hu => ?_⟩⟩
  rw [Nat.zero_add, cell_of_row _ _ _ #[.int .u64 a] T (0, 0) (heap_alloc_new W _)]
  simpa [Lay.cells, nuL] using hu

/-! ### New, Conf -/

def confB (l r : Int) : Bool := decide (l ≤ 4611686018427387904) && (decide (1 ≤ r) && decide (r ≤ 1024))
theorem fin5 {W : World} {b : Nat} {v0 v1 v2 v3 v4 : Value} {t : TypeId} (h : W.heap[b]? = some (.cells #[v0, v1, v2, v3, v4] t)) (u0 u1 u2 u3 u4 : Value) :
    ∃ W5, (((((W.setCell ⟨b, 0, none⟩ u0).setCell ⟨b, 1, none⟩ u1).setCell ⟨b, 2, none⟩ u2).setCell ⟨b, 3, none⟩ u3).setCell ⟨b, 4, none⟩ u4) = W5 ∧ W5.heap[b]? = some (.cells #[u0, u1, u2, u3, u4] t) ∧ W.grownBy W5 (some b) := by
  refine ⟨_, rfl, set5 h u0 u1 u2 u3 u4, ?_⟩
  exact grown_trans (grown_trans (grown_trans (grown_trans (grown_set _ b 0 u0) (grown_set _ b 1 u1)) (grown_set _ b 2 u2)) (grown_set _ b 3 u3)) (grown_set _ b 4 u4)
theorem below_row {w W W' : World} {b : Nat} (h : Below w.heap.size w W) (hg : W.grownBy W' (some b)) (hb : w.heap.size ≤ b) : Below w.heap.size w W' := h.grown hg h.size fun k e => by cases e; exact hb

def newV (l r : Int) : Value := .tuple (if confB l r then #[bval l r 0 0 (.slice none 0 0), .int .i64 0] else #[bval 0 0 0 0 (.slice none 0 0), .int .i64 9])
theorem newV_yes {l r : Int} (h : confB l r = true) : newV l r = .tuple #[bval l r 0 0 (.slice none 0 0), .int .i64 0] := by simp [newV, h]
theorem newV_no {l r : Int} (h : confB l r = false) : newV l r = .tuple #[bval 0 0 0 0 (.slice none 0 0), .int .i64 9] := by simp [newV, h]
theorem bnew_any (l r : Int) (w : World) :
    Calls Try.prog 27 #[.int .u64 l, .int .i64 r] w fun e w' => e = .returned (newV l r) ∧ Below w.heap.size w w' := by
  cases hc : confB l r
  · rw [newV_no hc]
    by_cases h1 : l ≤ 4611686018427387904
    · by_cases h2 : 1 ≤ r
      · have h3 : ¬ r ≤ 1024 := fun h3 => by simp [confB, h1, h2, h3] at hc
        clear hc
        go_enter Try.func27, Try.ntmps27
        go_wp2
        refine bodyPost_ret (v := .tuple #[bval 0 0 0 0 (.slice none 0 0), .int .i64 9]) (by simp [results, Try.results27, go_sem]) rfl ⟨rfl, (Below.refl _ w).alloc (Nat.le_refl _) _⟩
      · clear hc
        go_enter Try.func27, Try.ntmps27
        go_wp2
        refine bodyPost_ret (v := .tuple #[bval 0 0 0 0 (.slice none 0 0), .int .i64 9]) (by simp [results, Try.results27, go_sem]) rfl ⟨rfl, (Below.refl _ w).alloc (Nat.le_refl _) _⟩
    · clear hc
      go_enter Try.func27, Try.ntmps27
      go_wp2
      refine bodyPost_ret (v := .tuple #[bval 0 0 0 0 (.slice none 0 0), .int .i64 9]) (by simp [results, Try.results27, go_sem]) rfl ⟨rfl, (Below.refl _ w).alloc (Nat.le_refl _) _⟩
  · rw [newV_yes hc]
    have h1 : l ≤ 4611686018427387904 := by simp [confB] at hc; omega
    have h2 : 1 ≤ r := by simp [confB] at hc; omega
    have h3 : r ≤ 1024 := by simp [confB] at hc; omega
    clear hc
    go_enter Try.func27, Try.ntmps27
    go_wp2
    refine bodyPost_ret (v := .tuple #[bval l r 0 0 (.slice none 0 0), .int .i64 0]) (by simp [results, Try.results27, go_sem]) rfl ⟨rfl, (Below.refl _ w).alloc (Nat.le_refl _) _⟩

end Go.Proofs.Ythncmjimfkbofaa
end
