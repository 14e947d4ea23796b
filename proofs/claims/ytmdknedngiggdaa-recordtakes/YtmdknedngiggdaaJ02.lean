/- Slices of slices: levels of buckets in memory, and a row of the call's own to which levels are appended. · Levels that are read alone: slices of slices in memory, of whatever blocks; and how they come in as an argument. · Plain mathematics of levels: a line of buckets, pairs that go, and what stays. · The contracts of level's small functions. -/
import Derived.OwnWalkIn
import Derived.Test.YtmdknedngiggdaaJ01
import Derived.WalkKit
import Derived.IntWalk
import Derived.Deep.CutBlock
import Derived.Laws.StructEq
import Derived.KernelRfl
import Derived.Test.YtmdknedngiggdaaProg
section
/- Slices of slices: levels of buckets in memory, and a row of the call's own to which levels are appended. -/
namespace Go.Proofs.Rw
open Go Go.RowKit

/-- One value a cell. -/
def valL : Lay Value := ⟨1, fun v => [v], fun _ => rfl⟩
theorem valL_cells (vs : List Value) : valL.cells vs = vs := by
  induction vs with
  | nil => rfl
  | cons v vs ih => rw [cells_cons, ih]; rfl

/-- Nothing, in whatever world, is 'nil'. -/
def NilOk (v : Value) : Prop := ∀ n c, v = .slice none n c → n = 0 ∧ c = 0
/-- The block b holds cells of the type T. -/
def Ty (w : World) (T : TypeId) (b : Nat) : Prop := ∃ (cs : Array Value) (fr : Nat × Nat), w.heap[b]? = some (.cells cs T fr)
theorem Ty.lt {w : World} {T : TypeId} {b : Nat} (h : Ty w T b) : b < w.heap.size := by
  obtain ⟨cs, fr, h⟩ := h
  exact (Array.getElem?_eq_some_iff.1 h).1
theorem Ty.keep {w w' : World} {T : TypeId} {b : Nat} (h : Ty w T b) (hk : w'.heap[b]? = w.heap[b]?) : Ty w' T b := by
  obtain ⟨cs, fr, h⟩ := h
  exact ⟨cs, fr, hk.trans h⟩
theorem Ty.ne {w : World} {T T' : TypeId} {b b' : Nat} (h : Ty w T b) (h' : Ty w T' b') (hne : T ≠ T') : b ≠ b' := by
  rintro rfl
  obtain ⟨cs, fr, h⟩ := h
  obtain ⟨cs', fr', h'⟩ := h'
  rw [h] at h'
  injection h' with h'
  injection h' with _ h' _
  exact hne h'
/-- What is held, is held in blocks of the type T. -/
def Held (w : World) (T : TypeId) (v : Value) : Prop := ∀ b, v.ownBlock = some b → Ty w T b
theorem lies_lt {α : Type} {L : Lay α} {w : World} {B : Nat} {v : Value} {xs : List α} (h : Lies L w B v xs) (hn : xs ≠ []) {b : Nat} (hb : v.ownBlock = some b) : b < B := by
  obtain ⟨A, cap, rfl, _, _, h6⟩ := h
  rcases h6 with h6 | ⟨b', off, hb', rfl, _⟩
  · exact absurd h6 hn
  · injection hb with hb
    exact hb ▸ hb'
/-- The slice value v holds slices that hold the levels ls, in blocks below B. -/
def Levs (w : World) (B : Nat) (v : Value) (ls : List (List Sp)) : Prop :=
  NilOk v ∧ ∃ vs : List Value, Lies valL w B v vs ∧ vs.length = ls.length ∧ (vs ≠ [] → Held w 65 v) ∧ ∀ (i : Nat) (u : Value) (l : List Sp), vs[i]? = some u → ls[i]? = some l → Lies spL w B u l ∧ (l ≠ [] → Held w 73 u)

section
variable {w w' : World} {B B' : Nat} {v : Value} {ls : List (List Sp)}

theorem Levs.keep (h : Levs w B v ls) (hk : ∀ b, b < B → w'.heap[b]? = w.heap[b]?) : Levs w' B v ls := by
  obtain ⟨h0, vs, h1, h2, h4, h3⟩ := h
  exact ⟨h0, vs, h1.keep hk, h2, fun hn b hb => (h4 hn b hb).keep (hk b (lies_lt h1 hn hb)), fun i u l hu hl => ⟨(h3 i u l hu hl).1.keep hk, fun hn b hb => ((h3 i u l hu hl).2 hn b hb).keep (hk b (lies_lt (h3 i u l hu hl).1 hn hb))⟩⟩
/-- A block of another type is written. -/
theorem Levs.other {row : Option Nat} (h : Levs w w.heap.size v ls) (hg : w.grownBy w' row) (hr : ∀ b, row = some b → ¬ Ty w 65 b ∧ ¬ Ty w 73 b) : Levs w' w'.heap.size v ls := by
  obtain ⟨h0, vs, h1, h2, h4, h3⟩ := h
  refine ⟨h0, vs, ?_, h2, fun hn b hb => (h4 hn b hb).keep (hg.block b (h4 hn b hb).lt fun e => (hr b e.symm).1 (h4 hn b hb)), fun i u l hu hl => ⟨?_, fun hn b hb => ((h3 i u l hu hl).2 hn b hb).keep (hg.block b ((h3 i u l hu hl).2 hn b hb).lt fun e => (hr b e.symm).2 ((h3 i u l hu hl).2 hn b hb))⟩⟩
  · by_cases hn : vs = []
    · obtain ⟨A, cap, rfl, h5, h6, _⟩ := h1
      exact ⟨A, cap, rfl, h5, h6, .inl hn⟩
    · exact h1.off hg fun b hb e => (hr b e.symm).1 (h4 hn b hb)
  · by_cases hn : l = []
    · obtain ⟨A, cap, rfl, h5, h6, _⟩ := (h3 i u l hu hl).1
      exact ⟨A, cap, rfl, h5, h6, .inl hn⟩
    · exact (h3 i u l hu hl).1.off hg fun b hb e => (hr b e.symm).2 ((h3 i u l hu hl).2 hn b hb)
theorem Levs.below (h : Levs w B v ls) (hb : Below B w w') : Levs w' B v ls := h.keep hb.block
theorem Levs.mono (h : Levs w B v ls) (hB : B ≤ B') : Levs w B' v ls := by
  obtain ⟨h0, vs, h1, h2, h4, h3⟩ := h
  exact ⟨h0, vs, h1.mono hB, h2, h4, fun i u l hu hl => ⟨(h3 i u l hu hl).1.mono hB, (h3 i u l hu hl).2⟩⟩
theorem Levs.grow (h : Levs w w.heap.size v ls) (hb : Below w.heap.size w w') : Levs w' w'.heap.size v ls := (h.below hb).mono hb.size
theorem Levs.alloc (h : Levs w B v ls) (hB : B ≤ w.heap.size) (o : Obj) : Levs (w.alloc o) B v ls := h.keep fun b hb => Below.heap_alloc w o b (by omega)
theorem Levs.nil : Levs w B (.slice none 0 0) [] := ⟨fun n c e => by injection e with _ e1 e2; omega, [], Lies.nil none 0 (by simp), rfl, fun h => absurd rfl h, fun i u l hu _ => by simp at hu⟩
theorem Levs.form (h : Levs w B v ls) : ∃ A cap, v = .slice A ls.length cap ∧ ls.length ≤ cap ∧ cap ≤ maxLen ∧ Levs w B (.slice A ls.length cap) ls := by
  obtain ⟨h0, vs, h1, h2, h7, h3⟩ := h
  obtain ⟨A, cap, hv, h4, h5, h6⟩ := h1.form
  rw [h2] at hv h4 h6
  rw [hv] at h0 h7
  exact ⟨A, cap, hv, h4, h5, h0, vs, h6, h2, h7, h3⟩
/-- The level i: its slice's cell, and what it holds. -/
theorem Levs.at {A : Option Addr} {len cap : Nat} (h : Levs w B (.slice A len cap) ls) (h0 : 0 < ls.length) : ∃ b off, A = some ⟨b, off, none⟩ ∧ b < B ∧ len = ls.length ∧
    ∀ i (hi : i < ls.length), ∃ Ai ci, w.cell? ⟨b, off + i, none⟩ = some (.slice Ai ls[i].length ci) ∧ ls[i].length ≤ ci ∧ ci ≤ maxLen ∧ Lies spL w B (.slice Ai ls[i].length ci) ls[i] := by
  obtain ⟨_, vs, h1, h2, _, h3⟩ := h
  obtain ⟨b, off, hA, hb, hl, hc⟩ := h1.addr (by omega)
  refine ⟨b, off, hA, hb, by omega, fun i hi => ?_⟩
  have hiv : i < vs.length := by omega
  have hL := (h3 i vs[i] ls[i] (List.getElem?_eq_getElem hiv) (List.getElem?_eq_getElem hi)).1
  obtain ⟨Ai, ci, hu, h4, h5, h6⟩ := hL.form
  refine ⟨Ai, ci, ?_, h4, h5, h6⟩
  have := hc i hiv 0 vs[i] rfl
  rw [show i * valL.size + 0 = i by show i * 1 + 0 = i; omega, hu] at this
  exact this

theorem Lies.off2 {α : Type} {L : Lay α} {w w' : World} {v : Value} {xs : List α} {row : Option Nat} (h : Lies L w w.heap.size v xs) (hg : w.grownBy w' row) (hne : xs ≠ [] → ∀ b, v.ownBlock = some b → some b ≠ row) : Lies L w' w'.heap.size v xs := by
  by_cases hx : xs = []
  · obtain ⟨A, cap, rfl, h1, h2, _⟩ := h
    exact ⟨A, cap, rfl, h1, h2, .inl hx⟩
  · exact h.off hg (hne hx)

/-- A row of the call's own, of slices that hold the levels ls; what they hold lies in blocks of Z, and not in the row. -/
def OwnLevs (T : TypeId) (Z : Nat → Prop) (w : World) (base : Nat) (v : Value) (ls : List (List Sp)) : Prop :=
  ∃ vs : List Value, w.ownsRow base T 1 v vs.length vs ∧ vs.length = ls.length ∧
    ∀ (i : Nat) (u : Value) (l : List Sp), vs[i]? = some u → ls[i]? = some l → Lies spL w w.heap.size u l ∧ (l ≠ [] → ∀ b, u.ownBlock = some b → Z b ∧ v.ownBlock ≠ some b ∧ Ty w 73 b)

theorem OwnLevs.nil (T : TypeId) (Z : Nat → Prop) (w : World) (base : Nat) : OwnLevs T Z w base (.slice none 0 0) [] := ⟨[], World.ownsRow_nil _ _ _ _, rfl, fun i u l hu _ => by simp at hu⟩
theorem OwnLevs.levs {Z : Nat → Prop} {base : Nat} (h : OwnLevs 65 Z w base v ls) : Levs w w.heap.size v ls := by
  obtain ⟨vs, h1, h2, h3⟩ := h
  refine ⟨?_, vs, Lies.of_own (L := valL) (by rw [valL_cells]; exact h1), h2, fun _ b hb => ?_, fun i u l hu hl => ⟨(h3 i u l hu hl).1, fun hn b hb => ((h3 i u l hu hl).2 hn b hb).2.2⟩⟩
  case refine_2 =>
    rcases h1.2 with ⟨rfl, _⟩ | ⟨g', cap, cur, rfl, _, hgb, _⟩
    · cases hb
    · injection hb with hb
      have : g' = b := hb
      subst this
      exact ⟨cur, _, hgb⟩
  rintro n c rfl
  rcases h1.2 with ⟨e, _⟩ | ⟨g, cap, cur, e, _⟩
  · injection e with _ e1 e2
    omega
  · cases e
theorem OwnLevs.lt {T : TypeId} {Z : Nat → Prop} {base : Nat} (h : OwnLevs T Z w base v ls) : ∀ b, v.ownBlock = some b → base ≤ b ∧ b < w.heap.size := by
  obtain ⟨vs, h1, _⟩ := h
  exact h1.lt
theorem OwnLevs.form {T : TypeId} {Z : Nat → Prop} {base : Nat} (h : OwnLevs T Z w base v ls) : ∃ A cap, v = .slice A ls.length cap ∧ ls.length ≤ cap ∧ cap ≤ maxLen := by
  obtain ⟨vs, h1, h2, _⟩ := h
  rw [← h2]
  exact own_form h1
theorem OwnLevs.addr {T : TypeId} {Z : Nat → Prop} {base : Nat} (h : OwnLevs T Z w base v ls) (h0 : 0 < ls.length) : ∃ g cap, v = .slice (some ⟨g, 0, none⟩) ls.length cap ∧ base ≤ g ∧ g < w.heap.size ∧ ls.length ≤ cap := by
  obtain ⟨vs, h1, h2, _⟩ := h
  rcases h1.2 with ⟨_, e⟩ | ⟨g, cap, cur, rfl, hb, hg, hc, _⟩
  · omega
  · exact ⟨g, cap, by rw [h2], hb, (Array.getElem?_eq_some_iff.1 hg).1, by omega⟩
theorem OwnLevs.grow {T : TypeId} {Z : Nat → Prop} {base : Nat} (h : OwnLevs T Z w base v ls) (hb : Below w.heap.size w w') : OwnLevs T Z w' base v ls := by
  obtain ⟨vs, h1, h2, h3⟩ := h
  refine ⟨vs, own_below h1 hb, h2, fun i u l hu hl => ⟨(h3 i u l hu hl).1.grow hb, fun hn b hbb => ?_⟩⟩
  obtain ⟨a1, a2, a3⟩ := (h3 i u l hu hl).2 hn b hbb
  exact ⟨a1, a2, a3.keep (hb.block b a3.lt)⟩
theorem OwnLevs.base {T : TypeId} {Z : Nat → Prop} {base base' : Nat} (h : OwnLevs T Z w base v ls) (hb : base' ≤ base) : OwnLevs T Z w base' v ls := by
  obtain ⟨vs, h1, h2, h3⟩ := h
  refine ⟨vs, ⟨h1.1, ?_⟩, h2, h3⟩
  rcases h1.2 with h4 | ⟨g, cap, cur, hv, hg, r⟩
  · exact .inl h4
  · exact .inr ⟨g, cap, cur, hv, by omega, r⟩
theorem OwnLevs.zone {T : TypeId} {Z Z' : Nat → Prop} {base : Nat} (h : OwnLevs T Z w base v ls) (hz : ∀ b, b < w.heap.size → Z b → Z' b) : OwnLevs T Z' w base v ls := by
  obtain ⟨vs, h1, h2, h3⟩ := h
  refine ⟨vs, h1, h2, fun i u l hu hl => ⟨(h3 i u l hu hl).1, fun hn b hb => ?_⟩⟩
  obtain ⟨a1, a2, a3⟩ := (h3 i u l hu hl).2 hn b hb
  exact ⟨hz b a3.lt a1, a2, a3⟩
/-- Another block is written. -/
theorem OwnLevs.off {T : TypeId} {Z : Nat → Prop} {base x : Nat} (h : OwnLevs T Z w base v ls) (hg : w.grownBy w' (some x)) (hv : v.ownBlock ≠ some x) (hz : ∀ b, Z b → b ≠ x) : OwnLevs T Z w' base v ls := by
  obtain ⟨vs, h1, h2, h3⟩ := h
  refine ⟨vs, h1.kept hg (.inr hv), h2, fun i u l hu hl => ⟨(h3 i u l hu hl).1.off2 hg fun hn b hb e => ?_, fun hn b hb => ?_⟩⟩
  · injection e with e
    exact hz b ((h3 i u l hu hl).2 hn b hb).1 e
  · obtain ⟨a1, a2, a3⟩ := (h3 i u l hu hl).2 hn b hb
    exact ⟨a1, a2, a3.keep (hg.block b a3.lt fun e => by injection e with e; exact hz b a1 e)⟩

/-- A copy of the levels' row. -/
theorem OwnLevs.clone {T : TypeId} {w1 : World} {base B : Nat} {v' : Value} {vs : List Value} (h2 : vs.length = ls.length) (h3 : ∀ (i : Nat) (u : Value) (l : List Sp), vs[i]? = some u → ls[i]? = some l → Lies spL w B u l ∧ (l ≠ [] → Held w 73 u)) (hB : B ≤ w.heap.size)
    (hb : Below w.heap.size w w1) (ho : w1.ownsRow base T 1 v' vs.length vs) (hbase : w.heap.size ≤ base) : OwnLevs T (fun b => b < B) w1 base v' ls := by
  refine ⟨vs, ho, h2, fun i u l hu hl => ⟨((h3 i u l hu hl).1.mono hB).grow hb, fun hn b hbb => ?_⟩⟩
  have hbB := lies_lt (h3 i u l hu hl).1 hn hbb
  refine ⟨hbB, fun e => ?_, ((h3 i u l hu hl).2 hn b hbb).keep (hb.block b (by omega))⟩
  have := (ho.lt b e).1
  omega

theorem slice_one {A : Option Addr} {n c : Nat} : (Value.slice A n c).oneCell' = true := rfl
theorem lies_one {α : Type} {L : Lay α} {xs : List α} (h : Lies L w B v xs) : v.oneCell' = true := by
  obtain ⟨A, cap, rfl, _⟩ := h
  rfl

/-- A level, new in a literal of one: what append is handed. -/
theorem lit_val (W : World) (T : TypeId) (n : Nat) (hn : W.heap.size = n) (u : Value) : Lies valL (W.alloc (.cells #[u] T)) (n + 1) (.slice (some ⟨n, 0, none⟩) 1 1) [u] := by
  subst hn
  refine ⟨_, 1, rfl, by simp, by unfold maxLen; omega, .inr ⟨W.heap.size, 0, by omega, rfl, fun j x hx => ?_⟩⟩
  rw [Nat.zero_add, cell_of_row _ _ _ #[u] T (0, 0) (heap_alloc_new W _)]
  rw [valL_cells] at hx
  simpa using hx

/-- One more level is appended. -/
theorem OwnLevs.snoc {T : TypeId} {Z : Nat → Prop} {w1 w2 : World} {base : Nat} {v v' u : Value} {l : List Sp} (h : OwnLevs T Z w base v ls) (hu : Lies spL w w.heap.size u l) (hub : l ≠ [] → ∀ b, u.ownBlock = some b → Z b ∧ v.ownBlock ≠ some b ∧ Ty w 73 b)
    (g1 : Below w.heap.size w w1) (hg : w1.grownBy w2 v.ownBlock) (hv' : v'.ownBlock = v.ownBlock ∨ v'.ownBlock = some w1.heap.size)
    (ho : ∀ vs : List Value, vs.length = ls.length → w.ownsRow base T 1 v vs.length vs → w2.ownsRow base T 1 v' (vs ++ [u]).length (vs ++ [u])) : OwnLevs T Z w2 base v' (ls ++ [l]) := by
  obtain ⟨vs, h1, h2, h3⟩ := h
  have hz := g1.size
  have key : ∀ (x : Value) (m : List Sp), Lies spL w w.heap.size x m → (m ≠ [] → ∀ b, x.ownBlock = some b → Z b ∧ v.ownBlock ≠ some b ∧ Ty w 73 b) → Lies spL w2 w2.heap.size x m ∧ (m ≠ [] → ∀ b, x.ownBlock = some b → Z b ∧ v'.ownBlock ≠ some b ∧ Ty w2 73 b) := by
    intro x m hx hb
    refine ⟨(hx.grow g1).off2 hg fun hm b hbb e => (hb hm b hbb).2.1 e.symm, fun hm b hbb => ?_⟩
    obtain ⟨a1, a2, a3⟩ := hb hm b hbb
    have hbl : b < w.heap.size := lies_lt hx hm hbb
    refine ⟨a1, fun e => ?_, (a3.keep (g1.block b hbl)).keep (hg.block b (by omega) fun e => a2 e.symm)⟩
    rcases hv' with e' | e'
    · rw [e'] at e
      exact a2 e
    · rw [e'] at e
      injection e with e
      omega
  refine ⟨vs ++ [u], ho vs h2 h1, by simp [h2], fun i x m hx hm => ?_⟩
  rcases Nat.lt_or_ge i vs.length with hi | hi
  · rw [List.getElem?_append_left hi] at hx
    rw [List.getElem?_append_left (by omega)] at hm
    exact key x m (h3 i x m hx hm).1 (h3 i x m hx hm).2
  · rw [List.getElem?_append_right hi] at hx
    rw [List.getElem?_append_right (by omega)] at hm
    have hi0 : i - vs.length = 0 := by
      have := (List.getElem?_eq_some_iff.1 hx).1
      simp at this
      omega
    rw [hi0] at hx
    rw [← h2, hi0] at hm
    simp at hx hm
    subst hx hm
    exact key u l hu hub

theorem own_len {w : World} {base n c m : Nat} {A : Option Addr} {e : TypeId} {size : Nat} {cs : List Value} (h : w.ownsRow base e size (.slice A n c) m cs) : n = m := by
  rcases h.2 with ⟨h1, h2⟩ | ⟨g, cap, cur, h1, _⟩
  · injection h1 with _ h1 _
    omega
  · injection h1 with _ h1 _
/-- A level is set. -/
theorem OwnLevs.set {T : TypeId} {Z : Nat → Prop} {base g n c : Nat} {u : Value} {l : List Sp} (h : OwnLevs T Z w base (.slice (some ⟨g, 0, none⟩) n c) ls) (i : Nat) (hu : Lies spL w w.heap.size u l) (hub : l ≠ [] → ∀ b, u.ownBlock = some b → Z b ∧ b ≠ g ∧ Ty w 73 b) :
    OwnLevs T Z (w.setCell ⟨g, i, none⟩ u) base (.slice (some ⟨g, 0, none⟩) n c) (ls.set i l) ∧ w.grownBy (w.setCell ⟨g, i, none⟩ u) (some g) := by
  obtain ⟨vs, h1, h2, h3⟩ := h
  have hn : n = vs.length := own_len h1
  subst hn
  obtain ⟨h4, h5⟩ := h1.stored i u
  have key : ∀ (x : Value) (m : List Sp), Lies spL w w.heap.size x m → (m ≠ [] → ∀ b, x.ownBlock = some b → b ≠ g) → Lies spL (w.setCell ⟨g, i, none⟩ u) (w.setCell ⟨g, i, none⟩ u).heap.size x m := by
    intro x m hx hb
    refine hx.off2 h5 fun hm b hbb e => ?_
    injection e with e
    exact hb hm b hbb e
  refine ⟨⟨vs.set i u, by rw [List.length_set]; exact h4, by simp [h2], fun j x m hx hm => ?_⟩, h5⟩
  rw [List.getElem?_set] at hx hm
  by_cases hij : i = j
  · subst hij
    simp only [if_true] at hx hm
    split at hx
    · split at hm
      · injection hx with hx
        injection hm with hm
        subst hx hm
        exact ⟨key u l hu fun hn b hb => (hub hn b hb).2.1, fun hn b hb => ⟨(hub hn b hb).1, fun e => (hub hn b hb).2.1 (by injection e with e; exact e.symm), (hub hn b hb).2.2.keep (h5.block b (hub hn b hb).2.2.lt fun e => (hub hn b hb).2.1 (by injection e))⟩⟩
      · cases hm
    · cases hx
  · rw [if_neg hij] at hx hm
    refine ⟨key x m (h3 j x m hx hm).1 fun hn b hb e => ((h3 j x m hx hm).2 hn b hb).2.1 (by rw [← e]; rfl), fun hn b hb => ?_⟩
    obtain ⟨a1, a2, a3⟩ := (h3 j x m hx hm).2 hn b hb
    exact ⟨a1, a2, a3.keep (h5.block b a3.lt fun e => a2 (by injection e with e; rw [e]; rfl))⟩
/-- Its cell may be written. -/
theorem OwnLevs.cell {T : TypeId} {Z : Nat → Prop} {base g n c : Nat} (h : OwnLevs T Z w base (.slice (some ⟨g, 0, none⟩) n c) ls) (i : Nat) (hi : i < ls.length) : (∃ u, w.cell? ⟨g, i, none⟩ = some u) ∧ w.frozen? ⟨g, i, none⟩ = false := by
  obtain ⟨vs, h1, h2, h3⟩ := h
  have hn : n = vs.length := own_len h1
  subst hn
  have e := h1.cellAt i (by omega)
  rw [List.getElem?_eq_getElem (by omega)] at e
  exact ⟨⟨_, e⟩, h1.frozenAt _⟩
end

/-- A level is appended to a row of the call's own. -/
theorem run_lev {P : Program} {T t : TypeId} {Z : Nat → Prop} (ty : TypeId) (z : Value) (bytes : Nat) (hinfo : (P.info? T).map (fun i => (i.zero, i.size, i.bytes)) = some (some z, 1, bytes)) (ht : P.underlying t = some (.slice T)) (hz : z.cells.size = 1) (hby : bytes ≤ 1000)
    (W : World) (base : Nat) (v u : Value) (ls : List (List Sp)) (l : List Sp) (hown : OwnLevs T Z W base v ls)
    (n : Nat) (hn : W.heap.size = n) (hu : Lies spL W W.heap.size u l) (hub : l ≠ [] → ∀ b, u.ownBlock = some b → Z b ∧ v.ownBlock ≠ some b ∧ Ty W 73 b) (hl : ls.length ≤ 1000000) (hbase : base ≤ W.heap.size) :
    ∃ v' w', (Builtin.append_ #[t, t] ty #[v, .slice (some ⟨n, 0, none⟩) 1 1]).run P (W.alloc (.cells #[u] T)) = .ok v' w' ∧ OwnLevs T Z w' base v' (ls ++ [l]) ∧ (v'.ownBlock = v.ownBlock ∨ v'.ownBlock = some (n + 1)) ∧ (W.alloc (.cells #[u] T)).grownBy w' v.ownBlock := by
  obtain ⟨vs, h1, h2, h3⟩ := hown
  obtain ⟨v', w', hr, ho, hg, hq⟩ := run_app2 (L := valL) (P := P) t ty T z bytes hinfo ht hz (show 0 < 1 by omega) hby (W.alloc (.cells #[u] T)) (base := base) (v := v) (xs := vs) (ys := [u]) (B := n + 1) (by rw [valL_cells]; exact h1.alloc _) (lit_val W T n hn u)
    (fun y hy c hc => by
      rw [List.mem_singleton.1 hy] at hc
      rw [show valL.enc u = [u] from rfl, List.mem_singleton] at hc
      rw [hc]
      exact lies_one hu) (by simp; omega) (by simp; omega)
  rw [valL_cells] at ho
  refine ⟨v', w', hr, ?_, hq.imp id fun e => by rw [e, World.size_alloc, hn], hg⟩
  refine OwnLevs.snoc (w1 := W.alloc (.cells #[u] T)) ⟨vs, h1, h2, h3⟩ hu hub ((Below.refl _ W).alloc (Nat.le_refl _) _) hg hq ?_
  intro vs' h2' h1'
  have e : vs' = vs := by
    rcases h1.2 with ⟨e1, e2⟩ | ⟨g, cap, cur, e1, _, e3, _, _, _, e4⟩
    · have a1 : vs = [] := List.eq_nil_of_length_eq_zero e2
      have a2 : vs' = [] := List.eq_nil_of_length_eq_zero (by rw [h2', ← h2]; exact e2)
      rw [a1, a2]
    · rcases h1'.2 with ⟨f1, f2⟩ | ⟨g', cap', cur', f1, _, f3, _, _, _, f4⟩
      · rw [f1] at e1; cases e1
      · rw [e1] at f1
        injection f1 with f1 _ _
        injection f1 with f1
        injection f1 with f1 _ _
        subst f1
        rw [e3] at f3
        injection f3 with f3
        injection f3 with f3 _ _
        subst f3
        rw [← e4, ← f4, h2', ← h2]
  rw [e]
  exact ho

/-- The operation, for the walk: 'x.Levels = append(x.Levels, l)', the level as a new literal of one. -/
theorem wpList_lev {P : Program} {T t : TypeId} {Z : Nat → Prop} (z : Value) (bytes : Nat) (hinfo : (P.info? T).map (fun i => (i.zero, i.size, i.bytes)) = some (some z, 1, bytes)) (ht : P.underlying t = some (.slice T)) (hz : z.cells.size = 1) (hby : bytes ≤ 1000)
    (W : World) {ops : Array Oper} {rest : List Oper} {o : Oper} {a : Act} {Q : Exit → Act → World → Prop} (hgd : o.guard = none) (s x : Operand)
    (hop : o.op = Op.call { callee := Callee.builtin Builtin.append, args := #[s, x], argTypes := #[t, t] }) (base : Nat) (v u : Value) (ls : List (List Sp)) (l : List Sp) (hs : a.eval s = v) (hown : OwnLevs T Z W base v ls)
    (n : Nat) (hn : W.heap.size = n) (hx : a.eval x = .slice (some ⟨n, 0, none⟩) 1 1) (hu : Lies spL W W.heap.size u l) (hub : l ≠ [] → ∀ b, u.ownBlock = some b → Z b ∧ v.ownBlock ≠ some b ∧ Ty W 73 b) (hl : ls.length ≤ 1000000) (hbase : base ≤ W.heap.size)
    (hK : ∀ v' w', OwnLevs T Z w' base v' (ls ++ [l]) → (v'.ownBlock = v.ownBlock ∨ v'.ownBlock = some (n + 1)) → (W.alloc (.cells #[u] T)).grownBy w' v.ownBlock → wpList P ops Q rest (a.put o.dst v') w') :
    wpList P ops Q (o :: rest) a (W.alloc (.cells #[u] T)) := by
  refine wpList_plain hgd fun K hK' => ?_
  obtain ⟨v', w', hr, h1, h2, h3⟩ := run_lev o.type z bytes hinfo ht hz hby W base v u ls l hown n hn hu hub hl hbase
  unfold Oper.wp execOp
  simp only [hop, resolve, invoke, builtin, Sem.run_bind, Sem.run_pure, Result.andThen_ok, List.map_toArray, List.map_cons, List.map_nil, hs, hx, hr]
  exact hK' _ _ (hK v' w' h1 h2 h3)
/-- The same inside a fence. -/
theorem wpListIn_lev {F : Fence} {m : Nat} {P : Program} {T t : TypeId} {Z : Nat → Prop} (z : Value) (bytes : Nat) (hinfo : (P.info? T).map (fun i => (i.zero, i.size, i.bytes)) = some (some z, 1, bytes)) (ht : P.underlying t = some (.slice T)) (hz : z.cells.size = 1) (hby : bytes ≤ 1000)
    (W : World) {ops : Array Oper} {rest : List Oper} {o : Oper} {a : Act} {Q : Exit → Act → World → Prop} (hgd : o.guard = none) (s x : Operand)
    (hop : o.op = Op.call { callee := Callee.builtin Builtin.append, args := #[s, x], argTypes := #[t, t] }) (base : Nat) (v u : Value) (ls : List (List Sp)) (l : List Sp) (hs : a.eval s = v) (hown : OwnLevs T Z W base v ls)
    (n : Nat) (hn : W.heap.size = n) (hx : a.eval x = .slice (some ⟨n, 0, none⟩) 1 1) (hu : Lies spL W W.heap.size u l) (hub : l ≠ [] → ∀ b, u.ownBlock = some b → Z b ∧ v.ownBlock ≠ some b ∧ Ty W 73 b) (hl : ls.length ≤ 1000000) (hbase : base ≤ W.heap.size)
    (hK : ∀ v' w', OwnLevs T Z w' base v' (ls ++ [l]) → (v'.ownBlock = v.ownBlock ∨ v'.ownBlock = some (n + 1)) → (W.alloc (.cells #[u] T)).grownBy w' v.ownBlock → wpListIn F m P ops Q rest (a.put o.dst v') w') :
    wpListIn F m P ops Q (o :: rest) a (W.alloc (.cells #[u] T)) := by
  refine wpListIn_plain hgd fun K hK' => ?_
  obtain ⟨v', w', hr, h1, h2, h3⟩ := run_lev o.type z bytes hinfo ht hz hby W base v u ls l hown n hn hu hub hl hbase
  unfold Oper.wpIn
  refine ⟨?_, ?_⟩
  · simp [Oper.about, hop, resolve, Target.leads, Sem.run_pure]
  · rw [Oper.semAt_plain F _ _ (by rw [hop]; intro c hc'; cases hc')]
    simp [execOp, hop, resolve, invoke, builtin, hs, hx, hr, Result.andThen]
    exact hK' _ _ (hK v' w' h1 h2 h3)

end Go.Proofs.Rw
end
section
/- Levels that are read alone: slices of slices in memory, of whatever blocks; and how they come in as an argument. -/
namespace Go.Proofs.Rw
open Go Go.RowKit

/-- The slice value v holds slices that hold the levels ls, in blocks below B; nothing is said of the blocks' types. -/
def Reads (w : World) (B : Nat) (v : Value) (ls : List (List Sp)) : Prop :=
  NilOk v ∧ ∃ vs : List Value, Lies valL w B v vs ∧ vs.length = ls.length ∧ ∀ (i : Nat) (u : Value) (l : List Sp), vs[i]? = some u → ls[i]? = some l → Lies spL w B u l

section
variable {w w' : World} {B B' : Nat} {v : Value} {ls : List (List Sp)}
theorem Levs.reads (h : Levs w B v ls) : Reads w B v ls := by
  obtain ⟨h0, vs, h1, h2, _, h3⟩ := h
  exact ⟨h0, vs, h1, h2, fun i u l hu hl => (h3 i u l hu hl).1⟩
theorem Reads.keep (h : Reads w B v ls) (hk : ∀ b, b < B → w'.heap[b]? = w.heap[b]?) : Reads w' B v ls := by
  obtain ⟨h0, vs, h1, h2, h3⟩ := h
  exact ⟨h0, vs, h1.keep hk, h2, fun i u l hu hl => (h3 i u l hu hl).keep hk⟩
theorem Reads.below (h : Reads w B v ls) (hb : Below B w w') : Reads w' B v ls := h.keep hb.block
theorem Reads.mono (h : Reads w B v ls) (hB : B ≤ B') : Reads w B' v ls := by
  obtain ⟨h0, vs, h1, h2, h3⟩ := h
  exact ⟨h0, vs, h1.mono hB, h2, fun i u l hu hl => (h3 i u l hu hl).mono hB⟩
theorem Reads.grow (h : Reads w w.heap.size v ls) (hb : Below w.heap.size w w') : Reads w' w'.heap.size v ls := (h.below hb).mono hb.size
theorem Reads.alloc (h : Reads w B v ls) (hB : B ≤ w.heap.size) (o : Obj) : Reads (w.alloc o) B v ls := h.keep fun b hb => Below.heap_alloc w o b (by omega)
theorem Reads.form (h : Reads w B v ls) : ∃ A cap, v = .slice A ls.length cap ∧ ls.length ≤ cap ∧ cap ≤ maxLen ∧ Reads w B (.slice A ls.length cap) ls := by
  obtain ⟨h0, vs, h1, h2, h3⟩ := h
  obtain ⟨A, cap, hv, h4, h5, h6⟩ := h1.form
  rw [h2] at hv h4 h6
  rw [hv] at h0
  exact ⟨A, cap, hv, h4, h5, h0, vs, h6, h2, h3⟩
/-- The level i: its slice's cell, and what it holds. -/
theorem Reads.at {A : Option Addr} {len cap : Nat} (h : Reads w B (.slice A len cap) ls) (h0 : 0 < ls.length) : ∃ b off, A = some ⟨b, off, none⟩ ∧ b < B ∧ len = ls.length ∧
    ∀ i (hi : i < ls.length), ∃ Ai ci, w.cell? ⟨b, off + i, none⟩ = some (.slice Ai ls[i].length ci) ∧ ls[i].length ≤ ci ∧ ci ≤ maxLen ∧ Lies spL w B (.slice Ai ls[i].length ci) ls[i] := by
  obtain ⟨_, vs, h1, h2, h3⟩ := h
  obtain ⟨b, off, hA, hb, hl, hc⟩ := h1.addr (by omega)
  refine ⟨b, off, hA, hb, by omega, fun i hi => ?_⟩
  have hiv : i < vs.length := by omega
  have hL := h3 i vs[i] ls[i] (List.getElem?_eq_getElem hiv) (List.getElem?_eq_getElem hi)
  obtain ⟨Ai, ci, hu, h4, h5, h6⟩ := hL.form
  refine ⟨Ai, ci, ?_, h4, h5, h6⟩
  have := hc i hiv 0 vs[i] rfl
  rw [show i * valL.size + 0 = i by show i * 1 + 0 = i; omega, hu] at this
  exact this
end
end Go.Proofs.Rw
namespace Go.Proofs.Op
open Go Go.RowKit Go.ChangeShapes Go.WideShapes Go.Deep Go.Proofs.Rw

section
variable {H : Type} {enc : TypeId × Value → H} {P : Program} {w : World} {base : Nat} {spare : Nat → Bool} {held : Bool}

/-- Cells of levels that came in. -/
theorem open_levels {f : Nat} {t e1 e : TypeId} {fuel : Nat} {cs : List Value} {x : DataW H × List MemPlace} (ht : P.underlying t = some (.slice e1)) (ht1 : P.underlying e1 = some (.slice e)) (hc1 : P.cellsOf e1 = 1)
    (hk : kinds P f e = some [.u64, .u64]) (hC : P.cellsOf e = 2) (h : DataW.trod enc P w base spare held fuel t cs = some x) :
    ∃ (A : Option Addr) (c : Nat) (ls : List (List Sp)), cs = [.slice A ls.length c] ∧ Reads w w.heap.size (.slice A ls.length c) ls ∧ ∀ l ∈ ls, ∀ y ∈ l, y.1 < 18446744073709551616 ∧ y.2 < 18446744073709551616 := by
  rcases open_slice1 ht hc1 h with ⟨rfl, _⟩ | ⟨a, len, cap, m, n, V, D, Pl, rfl, _, hl, hm, hmm, _, hx⟩
  · exact ⟨none, 0, [], rfl, ⟨fun n c e => (by injection e with _ e1 e2; simp only [List.length_nil] at e1; omega), [], Lies.nil none 0 (by simp), rfl, fun i u l hu _ => (by simp at hu)⟩, by simp⟩
  · have hlm : len ≤ m := by rw [hmm]; split <;> omega
    have each : ∀ i, i < len → ∃ l : List Sp, Lies spL w w.heap.size (V i) l ∧ ∀ y ∈ l, y.1 < 18446744073709551616 ∧ y.2 < 18446744073709551616 := by
      intro i hi
      obtain ⟨_, ht'⟩ := hx i (by omega)
      have key : ∃ ai ni ci, V i = .slice ai ni ci := by
        rcases open_slice ht1 ht' with ⟨e, _⟩ | ⟨a', l', c', _, _, _, _, e, _⟩
        · injection e with e
          exact ⟨_, _, _, e⟩
        · injection e with e
          exact ⟨_, _, _, e⟩
      obtain ⟨ai, ni, ci, e⟩ := key
      rw [e] at ht'
      obtain ⟨z, hz⟩ := open_flats (f := f) (ks := [.u64, .u64]) ht1 hk hC (by decide) ⟨n, ht'⟩
      obtain ⟨xs, e1, e2, e3⟩ := sp_of_row hz
      exact ⟨xs, by rw [e]; exact e2, e3⟩
    rcases Nat.eq_zero_or_pos len with h0 | h0
    · subst h0
      exact ⟨some a, cap, [], rfl, ⟨fun n c e => (by cases e), [], Lies.nil _ _ hm, rfl, fun i u l hu _ => (by simp at hu)⟩, by simp⟩
    obtain ⟨b, off, spot⟩ := a
    have hs : spot = none := by
      have := (hx 0 (by omega)).1
      simpa [Addr.add] using World.cell?_spot this
    subst hs
    have hcell : ∀ i, i < len → w.cell? ⟨b, off + i, none⟩ = some (V i) := fun i hi => by
      have := (hx i (by omega)).1
      rwa [Go.WideShapes.add_plain] at this
    have hbl : b < w.heap.size := World.block_lt_of_cell? w _ (hcell 0 h0)
    have hall : ∃ ls : List (List Sp), ls.length = len ∧ ∀ i (hi : i < ls.length), Lies spL w w.heap.size (V i) ls[i] ∧ ∀ y ∈ ls[i], y.1 < 18446744073709551616 ∧ y.2 < 18446744073709551616 := by
      suffices g : ∀ k, k ≤ len → ∃ ls : List (List Sp), ls.length = k ∧ ∀ i (hi : i < ls.length), Lies spL w w.heap.size (V i) ls[i] ∧ ∀ y ∈ ls[i], y.1 < 18446744073709551616 ∧ y.2 < 18446744073709551616 from g len (Nat.le_refl _)
      intro k
      induction k with
      | zero => intro _; exact ⟨[], rfl, fun i hi => absurd hi (by simp)⟩
      | succ k ih =>
        intro hk'
        obtain ⟨ls, h1, h2⟩ := ih (by omega)
        obtain ⟨l, h3⟩ := each k (by omega)
        refine ⟨ls ++ [l], by simp [h1], fun i hi => ?_⟩
        rcases Nat.lt_or_ge i ls.length with h | h
        · rw [List.getElem_append_left h]
          exact h2 i h
        · have e : i = k := by simp at hi; omega
          subst e
          rw [List.getElem_append_right h]
          simpa [h1] using h3
    obtain ⟨ls, h1, h2⟩ := hall
    have hvl : ((List.range len).map V).length = len := by simp
    refine ⟨some ⟨b, off, none⟩, cap, ls, by rw [h1], ⟨fun n c e => (by cases e), (List.range len).map V, ?_, by rw [hvl, h1], fun i u l hu hl' => ?_⟩, fun l hlm' => ?_⟩
    · refine ⟨some ⟨b, off, none⟩, cap, by rw [hvl, h1], by rw [hvl]; exact hl, hm, .inr ⟨b, off, hbl, rfl, fun j u hu => ?_⟩⟩
      rw [valL_cells] at hu
      obtain ⟨hj, e⟩ := List.getElem?_eq_some_iff.1 hu
      rw [hvl] at hj
      rw [hcell j hj, ← e]
      simp
    · obtain ⟨hi, e⟩ := List.getElem?_eq_some_iff.1 hl'
      obtain ⟨hj, e'⟩ := List.getElem?_eq_some_iff.1 hu
      have := (h2 i hi).1
      rw [e] at this
      rw [← e']
      simpa using this
    · obtain ⟨i, hi, e⟩ := List.getElem_of_mem hlm'
      have := (h2 i hi).2
      rw [e] at this
      exact this

/-- A struct of two numbers and levels, by value. -/
theorem open_raw {f : Nat} {r : Reach} {b0 : Nat} {t e1 e : TypeId} {f0 f1 f2 : Field} {v : Value} {d : DataW H} {p : List MemPlace} (ht : P.underlying t = some (.struct #[f0, f1, f2])) (hs : P.cellsOf t = 3)
    (k0 : P.underlying f0.type = some (.int .i64)) (k1 : P.underlying f1.type = some (.int .i64)) (o : f0.offset = 0 ∧ f1.offset = 1 ∧ f2.offset = 2) (c : P.cellsOf f0.type = 1 ∧ P.cellsOf f1.type = 1 ∧ P.cellsOf f2.type = 1)
    (hl : P.underlying f2.type = some (.slice e1)) (hl1 : P.underlying e1 = some (.slice e)) (hc1 : P.cellsOf e1 = 1) (hk : kinds P f e = some [.u64, .u64]) (hC : P.cellsOf e = 2)
    (hv : Value.okWide P w r b0 t v) (h : DataW.Trod enc P w base spare held t v d p) :
    ∃ (k g : Int) (A : Option Addr) (cp : Nat) (ls : List (List Sp)), v = .agg #[.int .i64 k, .int .i64 g, .slice A ls.length cp] ∧ (Lit.int .i64 k).wf = true ∧ (Lit.int .i64 g).wf = true ∧ Reads w w.heap.size (.slice A ls.length cp) ls ∧ ∀ l ∈ ls, ∀ y ∈ l, y.1 < 18446744073709551616 ∧ y.2 < 18446744073709551616 := by
  obtain ⟨fuel, hf⟩ := h
  obtain ⟨cs, rfl, hsz⟩ := okWide_struct ht hv
  rw [hs] at hsz
  obtain ⟨xs, n, _, _, _, hxl, hfi⟩ := DataW.trod_struct ht hf
  obtain ⟨cl⟩ := cs
  simp only [List.size_toArray] at hsz
  match cl, hsz with
  | [u0, u1, u2], _ =>
    match xs, hxl with
    | [x0, x1, x2], _ =>
      have g0 := hfi 0 f0 rfl
      have g1 := hfi 1 f1 rfl
      have g2 := hfi 2 f2 rfl
      rw [o.1, c.1] at g0
      rw [o.2.1, c.2.1] at g1
      rw [o.2.2, c.2.2] at g2
      have h0 : DataW.trod enc P w base spare held n f0.type [u0] = some x0 := g0
      have h1 : DataW.trod enc P w base spare held n f1.type [u1] = some x1 := g1
      have h2 : DataW.trod enc P w base spare held n f2.type [u2] = some x2 := g2
      obtain ⟨k, e0, _, w0⟩ := DataW.trod_int k0 h0
      obtain ⟨g, e1', _, w1⟩ := DataW.trod_int k1 h1
      obtain ⟨A, cp, ls, e2, hr, hb⟩ := open_levels (f := f) hl hl1 hc1 hk hC h2
      injection e0 with e0
      injection e1' with e1'
      injection e2 with e2
      exact ⟨k, g, A, cp, ls, by rw [e0, e1', e2], w0, w1, hr, hb⟩

/-- A slice of slices of two numbers, by value. -/
theorem open_lists {f : Nat} {r : Reach} {b0 : Nat} {t e1 e : TypeId} {v : Value} {d : DataW H} {p : List MemPlace} (ht : P.underlying t = some (.slice e1)) (ht1 : P.underlying e1 = some (.slice e)) (hc1 : P.cellsOf e1 = 1)
    (hk : kinds P f e = some [.u64, .u64]) (hC : P.cellsOf e = 2) (hv : Value.okWide P w r b0 t v) (h : DataW.Trod enc P w base spare held t v d p) :
    ∃ (A : Option Addr) (cp : Nat) (ls : List (List Sp)), v = .slice A ls.length cp ∧ Reads w w.heap.size (.slice A ls.length cp) ls ∧ ∀ l ∈ ls, ∀ y ∈ l, y.1 < 18446744073709551616 ∧ y.2 < 18446744073709551616 := by
  obtain ⟨a, len, cap, rfl⟩ := okWide_slice ht hv
  obtain ⟨fuel, hf⟩ := h
  obtain ⟨A, cp, ls, e2, hr, hb⟩ := open_levels (f := f) ht ht1 hc1 hk hC hf
  simp only [Value.cells, List.cons.injEq, Value.slice.injEq, and_true] at e2
  obtain ⟨rfl, rfl, rfl⟩ := e2
  exact ⟨a, cap, ls, rfl, hr, hb⟩
/-- One slice of two numbers, as cells. -/
theorem open_list {f : Nat} {t e : TypeId} {fuel : Nat} {u : Value} {x : DataW H × List MemPlace} (ht : P.underlying t = some (.slice e)) (hk : kinds P f e = some [.u64, .u64]) (hC : P.cellsOf e = 2) (h : DataW.trod enc P w base spare held fuel t [u] = some x) :
    ∃ (A : Option Addr) (n c : Nat) (z : Nat → Nat → Int), u = .slice A n c ∧ FlatRow [.u64, .u64] w A n c z := by
  have key : ∃ ai ni ci, u = .slice ai ni ci := by
    rcases open_slice ht h with ⟨e, _⟩ | ⟨a', l', c', _, _, _, _, e, _⟩
    · injection e with e
      exact ⟨_, _, _, e⟩
    · injection e with e
      exact ⟨_, _, _, e⟩
  obtain ⟨ai, ni, ci, rfl⟩ := key
  obtain ⟨z, hz⟩ := open_flats (f := f) (ks := [.u64, .u64]) ht hk hC (by decide) ⟨fuel, h⟩
  exact ⟨ai, ni, ci, z, rfl, hz⟩
/-- A struct of a number, four slices of two numbers, and a small number, by value. -/
theorem open_tree {f : Nat} {r : Reach} {b0 : Nat} {t e1 e : TypeId} {f0 f1 f2 : Field} {v : Value} {d : DataW H} {p : List MemPlace} (ht : P.underlying t = some (.struct #[f0, f1, f2])) (hs : P.cellsOf t = 6)
    (k0 : P.underlying f0.type = some (.int .i64)) (k1 : P.underlying f1.type = some (.array 4 e1)) (k2 : P.underlying f2.type = some (.int .u8)) (o : f0.offset = 0 ∧ f1.offset = 1 ∧ f2.offset = 5) (c : P.cellsOf f0.type = 1 ∧ P.cellsOf f1.type = 4 ∧ P.cellsOf f2.type = 1)
    (hl1 : P.underlying e1 = some (.slice e)) (hc1 : P.cellsOf e1 = 1) (hk : kinds P f e = some [.u64, .u64]) (hC : P.cellsOf e = 2)
    (hv : Value.okWide P w r b0 t v) (h : DataW.Trod enc P w base spare held t v d p) :
    ∃ (k g : Int) (A : Fin 4 → Option Addr) (n c : Fin 4 → Nat) (z : Fin 4 → Nat → Nat → Int), v = .agg #[.int .i64 k, .slice (A 0) (n 0) (c 0), .slice (A 1) (n 1) (c 1), .slice (A 2) (n 2) (c 2), .slice (A 3) (n 3) (c 3), .int .u8 g] ∧
      (Lit.int .i64 k).wf = true ∧ (Lit.int .u8 g).wf = true ∧ ∀ j : Fin 4, FlatRow [.u64, .u64] w (A j) (n j) (c j) (z j) := by
  obtain ⟨fuel, hf⟩ := h
  obtain ⟨cs, rfl, hsz⟩ := okWide_struct ht hv
  rw [hs] at hsz
  obtain ⟨xs, m, _, _, _, hxl, hfi⟩ := DataW.trod_struct ht hf
  obtain ⟨cl⟩ := cs
  simp only [List.size_toArray] at hsz
  match cl, hsz with
  | [u0, u1, u2, u3, u4, u5], _ =>
    match xs, hxl with
    | [x0, x1, x2], _ =>
      have g0 := hfi 0 f0 rfl
      have g1 := hfi 1 f1 rfl
      have g2 := hfi 2 f2 rfl
      rw [o.1, c.1] at g0
      rw [o.2.1, c.2.1] at g1
      rw [o.2.2, c.2.2] at g2
      have h0 : DataW.trod enc P w base spare held m f0.type [u0] = some x0 := g0
      have h1 : DataW.trod enc P w base spare held m f1.type [u1, u2, u3, u4] = some x1 := g1
      have h2 : DataW.trod enc P w base spare held m f2.type [u5] = some x2 := g2
      obtain ⟨k, e0, _, w0⟩ := DataW.trod_int k0 h0
      obtain ⟨g, e5, _, w5⟩ := DataW.trod_int k2 h2
      obtain ⟨ys, m', _, _, _, hyl, hy⟩ := DataW.trod_array k1 h1
      rw [hc1] at hy
      match ys, hyl with
      | [y0, y1, y2, y3], _ =>
        have a0 : DataW.trod enc P w base spare held m' e1 [u1] = some y0 := hy 0 (by omega)
        have a1 : DataW.trod enc P w base spare held m' e1 [u2] = some y1 := hy 1 (by omega)
        have a2 : DataW.trod enc P w base spare held m' e1 [u3] = some y2 := hy 2 (by omega)
        have a3 : DataW.trod enc P w base spare held m' e1 [u4] = some y3 := hy 3 (by omega)
        obtain ⟨A0, n0, c0, z0, rfl, q0⟩ := open_list (f := f) hl1 hk hC a0
        obtain ⟨A1, n1, c1, z1, rfl, q1⟩ := open_list (f := f) hl1 hk hC a1
        obtain ⟨A2, n2, c2, z2, rfl, q2⟩ := open_list (f := f) hl1 hk hC a2
        obtain ⟨A3, n3, c3, z3, rfl, q3⟩ := open_list (f := f) hl1 hk hC a3
        injection e0 with e0
        injection e5 with e5
        refine ⟨k, g, fun j => [A0, A1, A2, A3][j.1]'j.2, fun j => [n0, n1, n2, n3][j.1]'j.2, fun j => [c0, c1, c2, c3][j.1]'j.2, fun j => [z0, z1, z2, z3][j.1]'j.2, by rw [e0, e5]; rfl, w0, w5, fun j => ?_⟩
        match j with
        | 0 => exact q0
        | 1 => exact q1
        | 2 => exact q2
        | 3 => exact q3
end
end Go.Proofs.Op
end
section
/- Plain mathematics of levels: a line of buckets, pairs that go, and what stays. -/
namespace Go.Proofs.Lm

abbrev Sp := Nat × Nat

/-- The bucket at a place of a line: those that are listed, and then such of one tick. -/
def el (xs : List Sp) (t i : Nat) : Sp := xs[i]?.getD (t, t)
/-- How many pairs go, of n and many more, where room is for room of them. -/
def pairs (n many room : Nat) : Nat := (n + many - room + 1) / 2
/-- How many of these have one of the n. -/
def wentN (n many room : Nat) : Nat := min (pairs n many room) ((n + 1) / 2)
def stayN (n many room : Nat) : Nat := n + many - 2 * pairs n many room
def leftN (n many room : Nat) : Nat := pairs n many room - wentN n many room
/-- The pair i, as one bucket. -/
def two (xs : List Sp) (t i : Nat) : Sp := ((el xs t (2 * i)).1, (el xs t (2 * i + 1)).2)
def went (xs : List Sp) (t many room : Nat) : List Sp := (List.range (wentN xs.length many room)).map (two xs t)
def stay (xs : List Sp) (t many room : Nat) : List Sp := (List.range (stayN xs.length many room)).map fun i => el xs t (2 * pairs xs.length many room + i)

theorem went_len (xs : List Sp) (t many room : Nat) : (went xs t many room).length = wentN xs.length many room := by simp [went]
theorem stay_len (xs : List Sp) (t many room : Nat) : (stay xs t many room).length = stayN xs.length many room := by simp [stay]

theorem el_lt {xs : List Sp} {t i : Nat} (h : i < xs.length) : el xs t i = xs[i] := by simp [el, h]
theorem el_ge {xs : List Sp} {t i : Nat} (h : xs.length ≤ i) : el xs t i = (t, t) := by simp [el, h]
theorem two_ge {xs : List Sp} {t i : Nat} (h : xs.length ≤ 2 * i) : two xs t i = (t, t) := by
  unfold two
  rw [el_ge (by omega), el_ge (by omega)]

/-! ### How many -/

theorem pairs_le {n many room : Nat} (h : 1 ≤ room) : 2 * pairs n many room ≤ n + many := by unfold pairs; omega
theorem stayN_le {n many room : Nat} : stayN n many room ≤ room := by unfold stayN pairs; omega
theorem wentN_le (n many room : Nat) : wentN n many room ≤ pairs n many room := Nat.min_le_left _ _
theorem wentN_half (n many room : Nat) : wentN n many room ≤ (n + 1) / 2 := Nat.min_le_right _ _
theorem leftN_le (n many room : Nat) (h : 1 ≤ room) : 2 * leftN n many room ≤ many := by
  unfold leftN wentN pairs
  omega
theorem sums (n many room : Nat) (h : 1 ≤ room) : 2 * (wentN n many room + leftN n many room) + stayN n many room = n + many := by
  unfold leftN stayN wentN pairs
  omega
theorem least (n many room : Nat) (h : 1 ≤ room) (hw : wentN n many room + leftN n many room ≠ 0) : room - 1 ≤ stayN n many room := by
  unfold leftN stayN wentN pairs at *
  omega
/-- What 'settle' tells, two times, one behind the other. -/
theorem settle_sum (n many room a fit over stay1 fit2 over2 : Nat) (hr : 1 ≤ room) (h1 : fit = min n room) (h2 : over = n - fit) (h3 : stay1 = fit - over % 2) (h4 : fit2 = min many (room - stay1)) (h5 : over2 = many - fit2)
    (ha : a = (over / 2 + over % 2) + (over2 / 2 + over2 % 2)) : a = pairs n many room ∧ stay1 + fit2 - over2 % 2 = stayN n many room := by
  unfold stayN pairs
  omega

/-! ### The program's own way: pairs and what stays are told one behind the other, and no further than the list -/

theorem stay_told {xs : List Sp} {t many room i : Nat} : el xs t (2 * wentN xs.length many room + i) = el xs t (2 * pairs xs.length many room + i) := by
  have h1 := wentN_le xs.length many room
  have h2 := wentN_half xs.length many room
  rcases Nat.lt_or_ge (2 * wentN xs.length many room) xs.length with h | h
  · have : wentN xs.length many room = pairs xs.length many room := by
      have : wentN xs.length many room = min (pairs xs.length many room) ((xs.length + 1) / 2) := rfl
      omega
    rw [this]
  · rw [el_ge (i := 2 * pairs xs.length many room + i) (by omega), el_ge (by omega)]

/-- What goes, with those of one tick behind it. -/
theorem went_full (xs : List Sp) (t many room : Nat) : went xs t many room ++ List.replicate (leftN xs.length many room) (t, t) = (List.range (pairs xs.length many room)).map (two xs t) := by
  have h1 := wentN_le xs.length many room
  apply List.ext_getElem
  · simp only [List.length_append, went_len, List.length_replicate, List.length_map, List.length_range]
    unfold leftN
    omega
  · intro i hi1 hi2
    simp only [List.getElem_map, List.getElem_range, went]
    rw [List.getElem_append]
    split
    · simp
    · rename_i h
      simp only [List.length_map, List.length_range] at h
      simp only [List.length_map, List.length_range] at hi2
      have hw : wentN xs.length many room = min (pairs xs.length many room) ((xs.length + 1) / 2) := rfl
      rw [List.getElem_replicate, two_ge (by omega)]

/-! ### One by one -/

def one (l : List Sp) (most : Nat) (s : Sp) : List Sp × List Sp :=
  if (l ++ [s]).length ≤ most then (l ++ [s], []) else ((l ++ [s]).drop 2, [(((l ++ [s])[0]?.getD (0, 0)).1, ((l ++ [s])[1]?.getD (0, 0)).2)])

/-- What stays, and what went, of a line's first n. -/
def stayTo (xs : List Sp) (t n room : Nat) : List Sp := (List.range (n - 2 * ((n - room + 1) / 2))).map fun i => el xs t (2 * ((n - room + 1) / 2) + i)
def wentTo (xs : List Sp) (t n room : Nat) : List Sp := (List.range ((n - room + 1) / 2)).map (two xs t)

theorem stayTo_all (xs : List Sp) (t many room : Nat) : stayTo xs t (xs.length + many) room = stay xs t many room := rfl
theorem wentTo_all (xs : List Sp) (t many room : Nat) : wentTo xs t (xs.length + many) room = went xs t many room ++ List.replicate (leftN xs.length many room) (t, t) := (went_full xs t many room).symm
theorem stayTo_first (l ys : List Sp) (t room : Nat) (h : l.length ≤ room) : stayTo (l ++ ys) t l.length room = l := by
  have e : (l.length - room + 1) / 2 = 0 := by omega
  unfold stayTo
  rw [e]
  apply List.ext_getElem
  · simp
  · intro i h1 h2
    simp [el, List.getElem?_append_left h2, h2]
theorem wentTo_first (xs : List Sp) (t n room : Nat) (h : n ≤ room) : wentTo xs t n room = [] := by
  have e : (n - room + 1) / 2 = 0 := by omega
  unfold wentTo
  rw [e]
  rfl
theorem range_snoc (f : Nat → Sp) (n : Nat) : (List.range (n + 1)).map f = (List.range n).map f ++ [f n] := by rw [List.range_succ, List.map_append]; rfl
theorem range_drop2 (f : Nat → Sp) (n : Nat) : ((List.range (n + 2)).map f).drop 2 = (List.range n).map fun i => f (2 + i) := by
  apply List.ext_getElem
  · simp
  · intro i h1 h2
    simp [Nat.add_comm 2 i]
theorem one_step (xs : List Sp) (t n room : Nat) (hr : 1 ≤ room) : one (stayTo xs t n room) room (el xs t n) = (stayTo xs t (n + 1) room, (wentTo xs t (n + 1) room).drop (wentTo xs t n room).length) ∧ wentTo xs t (n + 1) room = wentTo xs t n room ++ (one (stayTo xs t n room) room (el xs t n)).2 := by
  obtain ⟨p, hp⟩ : ∃ p, (n - room + 1) / 2 = p := ⟨_, rfl⟩
  obtain ⟨q, hq⟩ : ∃ q, (n + 1 - room + 1) / 2 = q := ⟨_, rfl⟩
  have hs : stayTo xs t n room ++ [el xs t n] = (List.range (n - 2 * p + 1)).map fun i => el xs t (2 * p + i) := by
    unfold stayTo
    rw [hp, range_snoc, show 2 * p + (n - 2 * p) = n by omega]
  have hw : wentTo xs t n room = (List.range p).map (two xs t) := by unfold wentTo; rw [hp]
  unfold one
  rw [hs, hw]
  by_cases h : n - 2 * p + 1 ≤ room
  · have e : q = p := by omega
    rw [if_pos (by simpa using h)]
    unfold stayTo wentTo
    rw [hq, e, show n + 1 - 2 * p = n - 2 * p + 1 by omega]
    simp
  · have e : q = p + 1 := by omega
    rw [if_neg (by simpa using h)]
    obtain ⟨m, hm⟩ : ∃ m, n - 2 * p + 1 = m + 2 := ⟨n - 2 * p - 1, by omega⟩
    unfold stayTo wentTo
    rw [hq, e, show n + 1 - 2 * (p + 1) = m by omega, hm, range_drop2, range_snoc (two xs t) p]
    have e2 : ∀ i, 2 * p + (2 + i) = 2 * (p + 1) + i := by intro i; omega
    have e3 : ((List.range (m + 2)).map fun i => el xs t (2 * p + i))[0]?.getD (0, 0) = el xs t (2 * p) := by simp
    have e4 : ((List.range (m + 2)).map fun i => el xs t (2 * p + i))[1]?.getD (0, 0) = el xs t (2 * p + 1) := by simp
    rw [e3, e4]
    simp only [e2]
    constructor
    · simp [two]
    · simp [two]

/-! ### In two -/

theorem el_stay (xs : List Sp) (t x room i : Nat) (hr : 1 ≤ room) : el (stay xs t x room) t i = el xs t (2 * pairs xs.length x room + i) := by
  have hp := pairs_le (n := xs.length) (many := x) hr
  rcases Nat.lt_or_ge i (stayN xs.length x room) with h | h
  · rw [el_lt (by rw [stay_len]; exact h)]
    simp [stay]
  · rw [el_ge (by rw [stay_len]; exact h), el_ge (by unfold stayN at h; omega)]
theorem two_stay (xs : List Sp) (t x room i : Nat) (hr : 1 ≤ room) : two (stay xs t x room) t i = two xs t (pairs xs.length x room + i) := by
  unfold two
  rw [el_stay _ _ _ _ _ hr, el_stay _ _ _ _ _ hr, show 2 * pairs xs.length x room + 2 * i = 2 * (pairs xs.length x room + i) by omega, show 2 * pairs xs.length x room + (2 * i + 1) = 2 * (pairs xs.length x room + i) + 1 by omega]
theorem pairs_twice (n x y room : Nat) (hr : 1 ≤ room) : pairs n (x + y) room = pairs n x room + pairs (stayN n x room) y room := by
  unfold stayN pairs
  omega
theorem twice_stay (xs : List Sp) (t x y room : Nat) (hr : 1 ≤ room) : stay (stay xs t x room) t y room = stay xs t (x + y) room := by
  have hp := pairs_le (n := xs.length) (many := x) hr
  have h2 := pairs_twice xs.length x y room hr
  apply List.ext_getElem
  · rw [stay_len, stay_len, stay_len]
    have e : stayN xs.length x room = xs.length + x - 2 * pairs xs.length x room := rfl
    show stayN xs.length x room + y - 2 * pairs (stayN xs.length x room) y room = xs.length + (x + y) - 2 * pairs xs.length (x + y) room
    omega
  · intro i h1 h3
    have : (stay (stay xs t x room) t y room)[i] = el (stay xs t x room) t (2 * pairs (stay xs t x room).length y room + i) := by simp [stay]
    rw [this, el_stay _ _ _ _ _ hr, stay_len]
    have : (stay xs t (x + y) room)[i] = el xs t (2 * pairs xs.length (x + y) room + i) := by simp [stay]
    rw [this, h2]
    congr 1
    omega
theorem twice_went (xs : List Sp) (t x y room : Nat) (hr : 1 ≤ room) : (went xs t x room ++ List.replicate (leftN xs.length x room) (t, t)) ++ (went (stay xs t x room) t y room ++ List.replicate (leftN (stay xs t x room).length y room) (t, t)) = went xs t (x + y) room ++ List.replicate (leftN xs.length (x + y) room) (t, t) := by
  rw [went_full, went_full, went_full, stay_len, pairs_twice _ _ _ _ hr]
  apply List.ext_getElem
  · simp
  · intro i h1 h2
    rw [List.getElem_append]
    split
    · simp
    · rename_i h
      simp only [List.length_map, List.length_range] at h
      simp only [List.getElem_map, List.getElem_range, List.length_map, List.length_range]
      rw [two_stay _ _ _ _ _ hr]
      congr 1
      omega

/-! ### In turn -/

/-- Buckets that stand in turn. -/
def Turn (xs : List Sp) : Prop := (∀ x ∈ xs, x.1 ≤ x.2) ∧ xs.Pairwise fun x y => x.2 ≤ y.1

theorem Turn.nil : Turn [] := ⟨by simp, by simp⟩
theorem Turn.snoc {xs : List Sp} {x : Sp} {t : Nat} (h : Turn xs) (ht : ∀ y ∈ xs, y.2 ≤ t) (hx : t ≤ x.1) (h1 : x.1 ≤ x.2) : Turn (xs ++ [x]) := by
  refine ⟨?_, ?_⟩
  · intro y hy
    rcases List.mem_append.1 hy with hy | hy
    · exact h.1 y hy
    · rw [List.mem_singleton.1 hy]; exact h1
  · rw [List.pairwise_append]
    refine ⟨h.2, by simp, fun a ha b hb => ?_⟩
    rw [List.mem_singleton.1 hb]
    exact Nat.le_trans (ht a ha) hx

section
variable {xs : List Sp} {t : Nat} (h : Turn xs) (ht : ∀ y ∈ xs, y.2 ≤ t)
include h ht
omit ht in
theorem el_self (i : Nat) : (el xs t i).1 ≤ (el xs t i).2 := by
  rcases Nat.lt_or_ge i xs.length with hi | hi
  · rw [el_lt hi]; exact h.1 _ (List.getElem_mem hi)
  · rw [el_ge hi]; exact Nat.le_refl _
omit h in
theorem el_le (i : Nat) : (el xs t i).2 ≤ t := by
  rcases Nat.lt_or_ge i xs.length with hi | hi
  · rw [el_lt hi]; exact ht _ (List.getElem_mem hi)
  · rw [el_ge hi]; exact Nat.le_refl _
theorem el_turn {i j : Nat} (hij : i < j) : (el xs t i).2 ≤ (el xs t j).1 := by
  rcases Nat.lt_or_ge j xs.length with hj | hj
  · rw [el_lt hj, el_lt (by omega)]
    exact List.pairwise_iff_getElem.1 h.2 i j (by omega) hj hij
  · rw [el_ge hj]
    exact el_le ht i
theorem two_self (i : Nat) : (two xs t i).1 ≤ (two xs t i).2 :=
  Nat.le_trans (el_self h (2 * i)) (Nat.le_trans (el_turn h ht (show 2 * i < 2 * i + 1 by omega)) (el_self h (2 * i + 1)))
theorem whole_turn (many room k : Nat) (hk : k ≤ leftN xs.length many room) : Turn ((went xs t many room ++ List.replicate k (t, t)) ++ stay xs t many room) := by
  have hwm : ∀ x ∈ went xs t many room, ∃ i, i < wentN xs.length many room ∧ x = two xs t i := by
    intro x hx
    simp only [went, List.mem_map, List.mem_range] at hx
    obtain ⟨i, hi, rfl⟩ := hx
    exact ⟨i, hi, rfl⟩
  have hsm : ∀ x ∈ stay xs t many room, ∃ i, x = el xs t (2 * pairs xs.length many room + i) := by
    intro x hx
    simp only [stay, List.mem_map, List.mem_range] at hx
    obtain ⟨i, hi, rfl⟩ := hx
    exact ⟨i, rfl⟩
  have hrm : ∀ x ∈ List.replicate k (t, t), 0 < k ∧ x = (t, t) := by
    intro x hx
    have := List.mem_replicate.1 hx
    exact ⟨by omega, this.2⟩
  have hwl := wentN_le xs.length many room
  refine ⟨?_, ?_⟩
  · intro x hx
    rcases List.mem_append.1 hx with hx | hx
    · rcases List.mem_append.1 hx with hx | hx
      · obtain ⟨i, _, rfl⟩ := hwm x hx
        exact two_self h ht i
      · rw [(hrm x hx).2]; exact Nat.le_refl _
    · obtain ⟨i, rfl⟩ := hsm x hx
      exact el_self h _
  · rw [List.pairwise_append, List.pairwise_append]
    refine ⟨⟨?_, ?_, ?_⟩, ?_, ?_⟩
    · rw [List.pairwise_iff_getElem]
      intro i j hi hj hij
      simp only [went, List.getElem_map, List.getElem_range]
      exact el_turn h ht (show 2 * i + 1 < 2 * j by omega)
    · rw [List.pairwise_iff_getElem]
      intro i j hi hj hij
      simp
    · intro a ha b hb
      obtain ⟨i, _, rfl⟩ := hwm a ha
      rw [(hrm b hb).2]
      exact el_le ht _
    · rw [List.pairwise_iff_getElem]
      intro i j hi hj hij
      simp only [stay, List.getElem_map, List.getElem_range]
      exact el_turn h ht (by omega)
    · intro a ha b hb
      obtain ⟨j, rfl⟩ := hsm b hb
      rcases List.mem_append.1 ha with ha | ha
      · obtain ⟨i, hi, rfl⟩ := hwm a ha
        exact el_turn h ht (show 2 * i + 1 < 2 * pairs xs.length many room + j by omega)
      · obtain ⟨h0, rfl⟩ := hrm a ha
        have : wentN xs.length many room = min (pairs xs.length many room) ((xs.length + 1) / 2) := rfl
        have h3 : 0 < leftN xs.length many room := by omega
        unfold leftN at h3
        rw [el_ge (by omega)]
        exact Nat.le_refl _
end

theorem Turn.at {xs : List Sp} (h : Turn xs) (i : Nat) (hi : i < xs.length) : (xs[i]).1 ≤ (xs[i]).2 := h.1 _ (List.getElem_mem hi)
theorem Turn.next {xs : List Sp} (h : Turn xs) (i : Nat) (hi : i + 1 < xs.length) : (xs[i]).2 ≤ (xs[i + 1]).1 := List.pairwise_iff_getElem.1 h.2 i (i + 1) (by omega) hi (by omega)

end Go.Proofs.Lm
end
section
/- The contracts of level's small functions. -/
namespace Go.Proofs.Ytmdknedngiggdaa
open Go.RowKit Go.Proofs.Rw

theorem ret_i {k : IntKind} {a b : Int} (h : a = b) : Ending.returned (.int k a) = .returned (.int k b) := by rw [h]

theorem boundedI_any (n lo hi : Int) (w : World) :
    Calls Try.prog 93 #[.int .i64 n, .int .i64 lo, .int .i64 hi] w fun e w' => e = .returned (.int .i64 (min (max n lo) hi)) ∧ w = w' := by
  go_enter Try.func93, Try.ntmps93
  go_wp2
  all_goals
    go_ret
    exact ⟨ret_i (by omega), rfl⟩
theorem halfI_any (n : Int) (h0 : 0 ≤ n) (hn : n ≤ 9223372036854775807) (w : World) :
    Calls Try.prog 94 #[.int .i64 n] w fun e w' => e = .returned (.int .i64 ((n + 1) / 2)) ∧ w = w' := by
  go_enter Try.func94, Try.ntmps94
  go_wp2
  go_ret
  exact ⟨ret_i (by omega), rfl⟩

/-- How many there must be. -/
def leastI (k i : Int) : Int := if i = 0 then max k 0 else (max k 0 + 1) / 2

theorem least_any (k i : Int) (hk : k ≤ 9223372036854775806) (w : World) :
    Calls Try.prog 83 #[.int .i64 k, .int .i64 i] w fun e w' => e = .returned (.int .i64 (leastI k i)) ∧ w = w' := by
  have e1 : min (max k 0) 9223372036854775807 = max k 0 := by omega
  have m1 := fun W => boundedI_any k 0 9223372036854775807 W
  rw [e1] at m1
  have h0 : 0 ≤ max k 0 := by omega
  have h1 : max k 0 ≤ 9223372036854775807 := by omega
  unfold leastI
  generalize max k 0 = m at *
  have m2 := fun W => halfI_any m h0 h1 W
  have M1 := Lib.hid m1
  have M2 := Lib.hid m2
  clear m1 m2 e1
  by_cases hi : i = 0
  · subst hi
    rw [if_pos rfl]
    go_enter Try.func83, Try.ntmps83
    go_wp2_with (go_at_call 93; (with_reducible refine (M1.out _).mono ?_); rintro e wn ⟨rfl, rfl⟩)
    go_ret
    exact ⟨rfl, rfl⟩
  · rw [if_neg hi]
    have hb : (i == 0) = false := by simpa using hi
    go_enter Try.func83, Try.ntmps83
    go_wp2_with (first
      | (go_at_call 93; (with_reducible refine (M1.out _).mono ?_); rintro e wn ⟨rfl, rfl⟩)
      | (go_at_call 94; (with_reducible refine (M2.out _).mono ?_); rintro e wn ⟨rfl, rfl⟩))
    go_ret
    exact ⟨rfl, rfl⟩
theorem leastI_le (k i : Int) (hk : k ≤ 9223372036854775806) : 0 ≤ leastI k i ∧ leastI k i ≤ 9223372036854775806 := by
  unfold leastI
  split <;> omega
theorem most_any (k i : Int) (hk : k ≤ 9223372036854775806) (w : World) :
    Calls Try.prog 84 #[.int .i64 k, .int .i64 i] w fun e w' => e = .returned (.int .i64 (leastI k i + 1)) ∧ w = w' := by
  have m1 := fun W => least_any k i hk W
  obtain ⟨h0, h1⟩ := leastI_le k i hk
  generalize leastI k i = m at *
  have M1 := Lib.hid m1
  clear m1
  go_enter Try.func84, Try.ntmps84
  go_wp2_with (go_at_call 83; (with_reducible refine (M1.out _).mono ?_); rintro e wn ⟨rfl, rfl⟩)
  go_ret
  exact ⟨rfl, rfl⟩

/-- The two results of 'settle'. -/
def tw (a b : Nat) : Ending := .returned (.tuple #[.int .u64 (a : Int), .int .u64 (b : Int)])
theorem tw_mk {x y : Int} {a b : Nat} (h1 : x = a) (h2 : y = b) : Ending.returned (.tuple #[.int .u64 x, .int .u64 y]) = tw a b := by rw [h1, h2]; rfl

end Go.Proofs.Ytmdknedngiggdaa
end
