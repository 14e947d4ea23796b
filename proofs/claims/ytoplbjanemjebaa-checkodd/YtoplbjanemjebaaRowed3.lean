/- Slices of slices: levels of buckets in memory, and a row of the call's own to which levels are appended. -/
import Derived.OwnWalkIn
import Derived.Test.YtoplbjanemjebaaRowed2
namespace Go.Proofs.Rw
open Go Go.RowKit

/-- One value a cell. -/
def valL : Lay Value := ⟨1, fun v => [v], fun _ => rfl⟩
theorem valL_cells (vs : List Value) : valL.cells vs = vs := by
  induction vs with
  | nil => rfl
  | cons v vs ih => rw [cells_cons, ih]; rfl

/-- Nothing, in whatever world, is 'nil'. -/
def NilOk (v : Value) : Prop := ∀ n c, v = .slice none n c → n = 0 ∧ c = 0
/-- The block b holds cells of the type T. -/
def Ty (w : World) (T : TypeId) (b : Nat) : Prop := ∃ (cs : Array Value) (fr : Nat × Nat), w.heap[b]? = some (.cells cs T fr)
theorem Ty.lt {w : World} {T : TypeId} {b : Nat} (h : Ty w T b) : b < w.heap.size := by
  obtain ⟨cs, fr, h⟩ := h
  exact (Array.getElem?_eq_some_iff.1 h).1
theorem Ty.keep {w w' : World} {T : TypeId} {b : Nat} (h : Ty w T b) (hk : w'.heap[b]? = w.heap[b]?) : Ty w' T b := by
  obtain ⟨cs, fr, h⟩ := h
  exact ⟨cs, fr, hk.trans h⟩
theorem Ty.ne {w : World} {T T' : TypeId} {b b' : Nat} (h : Ty w T b) (h' : Ty w T' b') (hne : T ≠ T') : b ≠ b' := by
  rintro rfl
  obtain ⟨cs, fr, h⟩ := h
  obtain ⟨cs', fr', h'⟩ := h'
  rw [h] at h'
  injection h' with h'
  injection h' with _ h' _
  exact hne h'
/-- What is held, is held in blocks of the type T. -/
def Held (w : World) (T : TypeId) (v : Value) : Prop := ∀ b, v.ownBlock = some b → Ty w T b
theorem lies_lt {α : Type} {L : Lay α} {w : World} {B : Nat} {v : Value} {xs : List α} (h : Lies L w B v xs) (hn : xs ≠ []) {b : Nat} (hb : v.ownBlock = some b) : b < B := by
  obtain ⟨A, cap, rfl, _, _, h6⟩ := h
  rcases h6 with h6 | ⟨b', off, hb', rfl, _⟩
  · exact absurd h6 hn
  · injection hb with hb
    exact hb ▸ hb'
/-- The slice value v holds slices that hold the levels ls, in blocks below B. -/
def Levs (w : World) (B : Nat) (v : Value) (ls : List (List Sp)) : Prop :=
  NilOk v ∧ ∃ vs : List Value, Lies valL w B v vs ∧ vs.length = ls.length ∧ (vs ≠ [] → Held w 45 v) ∧ ∀ (i : Nat) (u : Value) (l : List Sp), vs[i]? = some u → ls[i]? = some l → Lies spL w B u l ∧ (l ≠ [] → Held w 44 u)

section
variable {w w' : World} {B B' : Nat} {v : Value} {ls : List (List Sp)}

theorem Levs.keep (h : Levs w B v ls) (hk : ∀ b, b < B → w'.heap[b]? = w.heap[b]?) : Levs w' B v ls := by
  obtain ⟨h0, vs, h1, h2, h4, h3⟩ := h
  exact ⟨h0, vs, h1.keep hk, h2, fun hn b hb => (h4 hn b hb).keep (hk b (lies_lt h1 hn hb)), fun i u l hu hl => ⟨(h3 i u l hu hl).1.keep hk, fun hn b hb => ((h3 i u l hu hl).2 hn b hb).keep (hk b (lies_lt (h3 i u l hu hl).1 hn hb))⟩⟩
/-- A block of another type is written. -/
theorem Levs.other {row : Option Nat} (h : Levs w w.heap.size v ls) (hg : w.grownBy w' row) (hr : ∀ b, row = some b → ¬ Ty w 45 b ∧ ¬ Ty w 44 b) : Levs w' w'.heap.size v ls := by
  obtain ⟨h0, vs, h1, h2, h4, h3⟩ := h
  refine ⟨h0, vs, ?_, h2, fun hn b hb => (h4 hn b hb).keep (hg.block b (h4 hn b hb).lt fun e => (hr b e.symm).1 (h4 hn b hb)), fun i u l hu hl => ⟨?_, fun hn b hb => ((h3 i u l hu hl).2 hn b hb).keep (hg.block b ((h3 i u l hu hl).2 hn b hb).lt fun e => (hr b e.symm).2 ((h3 i u l hu hl).2 hn b hb))⟩⟩
  · by_cases hn : vs = []
    · obtain ⟨A, cap, rfl, h5, h6, _⟩ := h1
      exact ⟨A, cap, rfl, h5, h6, .inl hn⟩
    · exact h1.off hg fun b hb e => (hr b e.symm).1 (h4 hn b hb)
  · by_cases hn : l = []
    · obtain ⟨A, cap, rfl, h5, h6, _⟩ := (h3 i u l hu hl).1
      exact ⟨A, cap, rfl, h5, h6, .inl hn⟩
    · exact (h3 i u l hu hl).1.off hg fun b hb e => (hr b e.symm).2 ((h3 i u l hu hl).2 hn b hb)
theorem Levs.below (h : Levs w B v ls) (hb : Below B w w') : Levs w' B v ls := h.keep hb.block
theorem Levs.mono (h : Levs w B v ls) (hB : B ≤ B') : Levs w B' v ls := by
  obtain ⟨h0, vs, h1, h2, h4, h3⟩ := h
  exact ⟨h0, vs, h1.mono hB, h2, h4, fun i u l hu hl => ⟨(h3 i u l hu hl).1.mono hB, (h3 i u l hu hl).2⟩⟩
theorem Levs.grow (h : Levs w w.heap.size v ls) (hb : Below w.heap.size w w') : Levs w' w'.heap.size v ls := (h.below hb).mono hb.size
theorem Levs.alloc (h : Levs w B v ls) (hB : B ≤ w.heap.size) (o : Obj) : Levs (w.alloc o) B v ls := h.keep fun b hb => Below.heap_alloc w o b (by omega)
theorem Levs.nil : Levs w B (.slice none 0 0) [] := ⟨fun n c e => by injection e with _ e1 e2; omega, [], Lies.nil none 0 (by simp), rfl, fun h => absurd rfl h, fun i u l hu _ => by simp at hu⟩
theorem Levs.form (h : Levs w B v ls) : ∃ A cap, v = .slice A ls.length cap ∧ ls.length ≤ cap ∧ cap ≤ maxLen ∧ Levs w B (.slice A ls.length cap) ls := by
  obtain ⟨h0, vs, h1, h2, h7, h3⟩ := h
  obtain ⟨A, cap, hv, h4, h5, h6⟩ := h1.form
  rw [h2] at hv h4 h6
  rw [hv] at h0 h7
  exact ⟨A, cap, hv, h4, h5, h0, vs, h6, h2, h7, h3⟩
/-- The level i: its slice's cell, and what it holds. -/
theorem Levs.at {A : Option Addr} {len cap : Nat} (h : Levs w B (.slice A len cap) ls) (h0 : 0 < ls.length) : ∃ b off, A = some ⟨b, off, none⟩ ∧ b < B ∧ len = ls.length ∧
    ∀ i (hi : i < ls.length), ∃ Ai ci, w.cell? ⟨b, off + i, none⟩ = some (.slice Ai ls[i].length ci) ∧ ls[i].length ≤ ci ∧ ci ≤ maxLen ∧ Lies spL w B (.slice Ai ls[i].length ci) ls[i] := by
  obtain ⟨_, vs, h1, h2, _, h3⟩ := h
  obtain ⟨b, off, hA, hb, hl, hc⟩ := h1.addr (by omega)
  refine ⟨b, off, hA, hb, by omega, fun i hi => ?_⟩
  have hiv : i < vs.length := by omega
  have hL := (h3 i vs[i] ls[i] (List.getElem?_eq_getElem hiv) (List.getElem?_eq_getElem hi)).1
  obtain ⟨Ai, ci, hu, h4, h5, h6⟩ := hL.form
  refine ⟨Ai, ci, ?_, h4, h5, h6⟩
  have := hc i hiv 0 vs[i] rfl
  rw [show i * valL.size + 0 = i by show i * 1 + 0 = i; omega, hu] at this
  exact this

theorem Lies.off2 {α : Type} {L : Lay α} {w w' : World} {v : Value} {xs : List α} {row : Option Nat} (h : Lies L w w.heap.size v xs) (hg : w.grownBy w' row) (hne : xs ≠ [] → ∀ b, v.ownBlock = some b → some b ≠ row) : Lies L w' w'.heap.size v xs := by
  by_cases hx : xs = []
  · obtain ⟨A, cap, rfl, h1, h2, _⟩ := h
    exact ⟨A, cap, rfl, h1, h2, .inl hx⟩
  · exact h.off hg (hne hx)

/-- A row of the call's own, of slices that hold the levels ls; what they hold lies in blocks of Z, and not in the row. -/
def OwnLevs (T : TypeId) (Z : Nat → Prop) (w : World) (base : Nat) (v : Value) (ls : List (List Sp)) : Prop :=
  ∃ vs : List Value, w.ownsRow base T 1 v vs.length vs ∧ vs.length = ls.length ∧
    ∀ (i : Nat) (u : Value) (l : List Sp), vs[i]? = some u → ls[i]? = some l → Lies spL w w.heap.size u l ∧ (l ≠ [] → ∀ b, u.ownBlock = some b → Z b ∧ v.ownBlock ≠ some b ∧ Ty w 44 b)

theorem OwnLevs.nil (T : TypeId) (Z : Nat → Prop) (w : World) (base : Nat) : OwnLevs T Z w base (.slice none 0 0) [] := ⟨[], World.ownsRow_nil _ _ _ _, rfl, fun i u l hu _ => by simp at hu⟩
theorem OwnLevs.levs {Z : Nat → Prop} {base : Nat} (h : OwnLevs 45 Z w base v ls) : Levs w w.heap.size v ls := by
  obtain ⟨vs, h1, h2, h3⟩ := h
  refine ⟨?_, vs, Lies.of_own (L := valL) (by rw [valL_cells]; exact h1), h2, fun _ b hb => ?_, fun i u l hu hl => ⟨(h3 i u l hu hl).1, fun hn b hb => ((h3 i u l hu hl).2 hn b hb).2.2⟩⟩
  case refine_2 =>
    rcases h1.2 with ⟨rfl, _⟩ | ⟨g', cap, cur, rfl, _, hgb, _⟩
    · cases hb
    · injection hb with hb
      have : g' = b := hb
      subst this
      exact ⟨cur, _, hgb⟩
  rintro n c rfl
  rcases h1.2 with ⟨e, _⟩ | ⟨g, cap, cur, e, _⟩
  · injection e with _ e1 e2
    omega
  · cases e
theorem OwnLevs.lt {T : TypeId} {Z : Nat → Prop} {base : Nat} (h : OwnLevs T Z w base v ls) : ∀ b, v.ownBlock = some b → base ≤ b ∧ b < w.heap.size := by
  obtain ⟨vs, h1, _⟩ := h
  exact h1.lt
theorem OwnLevs.form {T : TypeId} {Z : Nat → Prop} {base : Nat} (h : OwnLevs T Z w base v ls) : ∃ A cap, v = .slice A ls.length cap ∧ ls.length ≤ cap ∧ cap ≤ maxLen := by
  obtain ⟨vs, h1, h2, _⟩ := h
  rw [← h2]
  exact own_form h1
theorem OwnLevs.addr {T : TypeId} {Z : Nat → Prop} {base : Nat} (h : OwnLevs T Z w base v ls) (h0 : 0 < ls.length) : ∃ g cap, v = .slice (some ⟨g, 0, none⟩) ls.length cap ∧ base ≤ g ∧ g < w.heap.size ∧ ls.length ≤ cap := by
  obtain ⟨vs, h1, h2, _⟩ := h
  rcases h1.2 with ⟨_, e⟩ | ⟨g, cap, cur, rfl, hb, hg, hc, _⟩
  · omega
  · exact ⟨g, cap, by rw [h2], hb, (Array.getElem?_eq_some_iff.1 hg).1, by omega⟩
theorem OwnLevs.grow {T : TypeId} {Z : Nat → Prop} {base : Nat} (h : OwnLevs T Z w base v ls) (hb : Below w.heap.size w w') : OwnLevs T Z w' base v ls := by
  obtain ⟨vs, h1, h2, h3⟩ := h
  refine ⟨vs, own_below h1 hb, h2, fun i u l hu hl => ⟨(h3 i u l hu hl).1.grow hb, fun hn b hbb => ?_⟩⟩
  obtain ⟨a1, a2, a3⟩ := (h3 i u l hu hl).2 hn b hbb
  exact ⟨a1, a2, a3.keep (hb.block b a3.lt)⟩
theorem OwnLevs.base {T : TypeId} {Z : Nat → Prop} {base base' : Nat} (h : OwnLevs T Z w base v ls) (hb : base' ≤ base) : OwnLevs T Z w base' v ls := by
  obtain ⟨vs, h1, h2, h3⟩ := h
  refine ⟨vs, ⟨h1.1, ?_⟩, h2, h3⟩
  rcases h1.2 with h4 | ⟨g, cap, cur, hv, hg, r⟩
  · exact .inl h4
  · exact .inr ⟨g, cap, cur, hv, by omega, r⟩
theorem OwnLevs.zone {T : TypeId} {Z Z' : Nat → Prop} {base : Nat} (h : OwnLevs T Z w base v ls) (hz : ∀ b, b < w.heap.size → Z b → Z' b) : OwnLevs T Z' w base v ls := by
  obtain ⟨vs, h1, h2, h3⟩ := h
  refine ⟨vs, h1, h2, fun i u l hu hl => ⟨(h3 i u l hu hl).1, fun hn b hb => ?_⟩⟩
  obtain ⟨a1, a2, a3⟩ := (h3 i u l hu hl).2 hn b hb
  exact ⟨hz b a3.lt a1, a2, a3⟩
/-- Another block is written. -/
theorem OwnLevs.off {T : TypeId} {Z : Nat → Prop} {base x : Nat} (h : OwnLevs T Z w base v ls) (hg : w.grownBy w' (some x)) (hv : v.ownBlock ≠ some x) (hz : ∀ b, Z b → b ≠ x) : OwnLevs T Z w' base v ls := by
  obtain ⟨vs, h1, h2, h3⟩ := h
  refine ⟨vs, h1.kept hg (.inr hv), h2, fun i u l hu hl => ⟨(h3 i u l hu hl).1.off2 hg fun hn b hb e => ?_, fun hn b hb => ?_⟩⟩
  · injection e with e
    exact hz b ((h3 i u l hu hl).2 hn b hb).1 e
  · obtain ⟨a1, a2, a3⟩ := (h3 i u l hu hl).2 hn b hb
    exact ⟨a1, a2, a3.keep (hg.block b a3.lt fun e => by injection e with e; exact hz b a1 e)⟩

/-- A copy of the levels' row. -/
theorem OwnLevs.clone {T : TypeId} {w1 : World} {base B : Nat} {v' : Value} {vs : List Value} (h2 : vs.length = ls.length) (h3 : ∀ (i : Nat) (u : Value) (l : List Sp), vs[i]? = some u → ls[i]? = some l → Lies spL w B u l ∧ (l ≠ [] → Held w 44 u)) (hB : B ≤ w.heap.size)
    (hb : Below w.heap.size w w1) (ho : w1.ownsRow base T 1 v' vs.length vs) (hbase : w.heap.size ≤ base) : OwnLevs T (fun b => b < B) w1 base v' ls := by
  refine ⟨vs, ho, h2, fun i u l hu hl => ⟨((h3 i u l hu hl).1.mono hB).grow hb, fun hn b hbb => ?_⟩⟩
  have hbB := lies_lt (h3 i u l hu hl).1 hn hbb
  refine ⟨hbB, fun e => ?_, ((h3 i u l hu hl).2 hn b hbb).keep (hb.block b (by omega))⟩
  have := (ho.lt b e).1
  omega

theorem slice_one {A : Option Addr} {n c : Nat} : (Value.slice A n c).oneCell' = true := rfl
theorem lies_one {α : Type} {L : Lay α} {xs : List α} (h : Lies L w B v xs) : v.oneCell' = true := by
  obtain ⟨A, cap, rfl, _⟩ := h
  rfl

/-- A level, new in a literal of one: what append is handed. -/
theorem lit_val (W : World) (T : TypeId) (n : Nat) (hn : W.heap.size = n) (u : Value) : Lies valL (W.alloc (.cells #[u] T)) (n + 1) (.slice (some ⟨n, 0, none⟩) 1 1) [u] := by
  subst hn
  refine ⟨_, 1, rfl, by simp, by unfold maxLen; omega, .inr ⟨W.heap.size, 0, by omega, rfl, fun j x hx => ?_⟩⟩
  rw [Nat.zero_add, cell_of_row _ _ _ #[u] T (0, 0) (heap_alloc_new W _)]
  rw [valL_cells] at hx
  simpa using hx

/-- One more level is appended. -/
theorem OwnLevs.snoc {T : TypeId} {Z : Nat → Prop} {w1 w2 : World} {base : Nat} {v v' u : Value} {l : List Sp} (h : OwnLevs T Z w base v ls) (hu : Lies spL w w.heap.size u l) (hub : l ≠ [] → ∀ b, u.ownBlock = some b → Z b ∧ v.ownBlock ≠ some b ∧ Ty w 44 b)
    (g1 : Below w.heap.size w w1) (hg : w1.grownBy w2 v.ownBlock) (hv' : v'.ownBlock = v.ownBlock ∨ v'.ownBlock = some w1.heap.size)
    (ho : ∀ vs : List Value, vs.length = ls.length → w.ownsRow base T 1 v vs.length vs → w2.ownsRow base T 1 v' (vs ++ [u]).length (vs ++ [u])) : OwnLevs T Z w2 base v' (ls ++ [l]) := by
  obtain ⟨vs, h1, h2, h3⟩ := h
  have hz := g1.size
  have key : ∀ (x : Value) (m : List Sp), Lies spL w w.heap.size x m → (m ≠ [] → ∀ b, x.ownBlock = some b → Z b ∧ v.ownBlock ≠ some b ∧ Ty w 44 b) → Lies spL w2 w2.heap.size x m ∧ (m ≠ [] → ∀ b, x.ownBlock = some b → Z b ∧ v'.ownBlock ≠ some b ∧ Ty w2 44 b) := by
    intro x m hx hb
    refine ⟨(hx.grow g1).off2 hg fun hm b hbb e => (hb hm b hbb).2.1 e.symm, fun hm b hbb => ?_⟩
    obtain ⟨a1, a2, a3⟩ := hb hm b hbb
    have hbl : b < w.heap.size := lies_lt hx hm hbb
    refine ⟨a1, fun e => ?_, (a3.keep (g1.block b hbl)).keep (hg.block b (by omega) fun e => a2 e.symm)⟩
    rcases hv' with e' | e'
    · rw [e'] at e
      exact a2 e
    · rw [e'] at e
      injection e with e
      omega
  refine ⟨vs ++ [u], ho vs h2 h1, by simp [h2], fun i x m hx hm => ?_⟩
  rcases Nat.lt_or_ge i vs.length with hi | hi
  · rw [List.getElem?_append_left hi] at hx
    rw [List.getElem?_append_left (by omega)] at hm
    exact key x m (h3 i x m hx hm).1 (h3 i x m hx hm).2
  · rw [List.getElem?_append_right hi] at hx
    rw [List.getElem?_append_right (by omega)] at hm
    have hi0 : i - vs.length = 0 := by
      have := (List.getElem?_eq_some_iff.1 hx).1
      simp at this
      omega
    rw [hi0] at hx
    rw [← h2, hi0] at hm
    simp at hx hm
    subst hx hm
    exact key u l hu hub

theorem own_len {w : World} {base n c m : Nat} {A : Option Addr} {e : TypeId} {size : Nat} {cs : List Value} (h : w.ownsRow base e size (.slice A n c) m cs) : n = m := by
  rcases h.2 with ⟨h1, h2⟩ | ⟨g, cap, cur, h1, _⟩
  · injection h1 with _ h1 _
    omega
  · injection h1 with _ h1 _
/-- A level is set. -/
theorem OwnLevs.set {T : TypeId} {Z : Nat → Prop} {base g n c : Nat} {u : Value} {l : List Sp} (h : OwnLevs T Z w base (.slice (some ⟨g, 0, none⟩) n c) ls) (i : Nat) (hu : Lies spL w w.heap.size u l) (hub : l ≠ [] → ∀ b, u.ownBlock = some b → Z b ∧ b ≠ g ∧ Ty w 44 b) :
    OwnLevs T Z (w.setCell ⟨g, i, none⟩ u) base (.slice (some ⟨g, 0, none⟩) n c) (ls.set i l) ∧ w.grownBy (w.setCell ⟨g, i, none⟩ u) (some g) := by
  obtain ⟨vs, h1, h2, h3⟩ := h
  have hn : n = vs.length := own_len h1
  subst hn
  obtain ⟨h4, h5⟩ := h1.stored i u
  have key : ∀ (x : Value) (m : List Sp), Lies spL w w.heap.size x m → (m ≠ [] → ∀ b, x.ownBlock = some b → b ≠ g) → Lies spL (w.setCell ⟨g, i, none⟩ u) (w.setCell ⟨g, i, none⟩ u).heap.size x m := by
    intro x m hx hb
    refine hx.off2 h5 fun hm b hbb e => ?_
    injection e with e
    exact hb hm b hbb e
  refine ⟨⟨vs.set i u, by rw [List.length_set]; exact h4, by simp [h2], fun j x m hx hm => ?_⟩, h5⟩
  rw [List.getElem?_set] at hx hm
  by_cases hij : i = j
  · subst hij
    simp only [if_true] at hx hm
    split at hx
    · split at hm
      · injection hx with hx
        injection hm with hm
        subst hx hm
        exact ⟨key u l hu fun hn b hb => (hub hn b hb).2.1, fun hn b hb => ⟨(hub hn b hb).1, fun e => (hub hn b hb).2.1 (by injection e with e; exact e.symm), (hub hn b hb).2.2.keep (h5.block b (hub hn b hb).2.2.lt fun e => (hub hn b hb).2.1 (by injection e))⟩⟩
      · cases hm
    · cases hx
  · rw [if_neg hij] at hx hm
    refine ⟨key x m (h3 j x m hx hm).1 fun hn b hb e => ((h3 j x m hx hm).2 hn b hb).2.1 (by rw [← e]; rfl), fun hn b hb => ?_⟩
    obtain ⟨a1, a2, a3⟩ := (h3 j x m hx hm).2 hn b hb
    exact ⟨a1, a2, a3.keep (h5.block b a3.lt fun e => a2 (by injection e with e; rw [e]; rfl))⟩
/-- Its cell may be written. -/
theorem OwnLevs.cell {T : TypeId} {Z : Nat → Prop} {base g n c : Nat} (h : OwnLevs T Z w base (.slice (some ⟨g, 0, none⟩) n c) ls) (i : Nat) (hi : i < ls.length) : (∃ u, w.cell? ⟨g, i, none⟩ = some u) ∧ w.frozen? ⟨g, i, none⟩ = false := by
  obtain ⟨vs, h1, h2, h3⟩ := h
  have hn : n = vs.length := own_len h1
  subst hn
  have e := h1.cellAt i (by omega)
  rw [List.getElem?_eq_getElem (by omega)] at e
  exact ⟨⟨_, e⟩, h1.frozenAt _⟩
end

/-- A level is appended to a row of the call's own. -/
theorem run_lev {P : Program} {T t : TypeId} {Z : Nat → Prop} (ty : TypeId) (z : Value) (bytes : Nat) (hinfo : (P.info? T).map (fun i => (i.zero, i.size, i.bytes)) = some (some z, 1, bytes)) (ht : P.underlying t = some (.slice T)) (hz : z.cells.size = 1) (hby : bytes ≤ 1000)
    (W : World) (base : Nat) (v u : Value) (ls : List (List Sp)) (l : List Sp) (hown : OwnLevs T Z W base v ls)
    (n : Nat) (hn : W.heap.size = n) (hu : Lies spL W W.heap.size u l) (hub : l ≠ [] → ∀ b, u.ownBlock = some b → Z b ∧ v.ownBlock ≠ some b ∧ Ty W 44 b) (hl : ls.length ≤ 1000000) (hbase : base ≤ W.heap.size) :
    ∃ v' w', (Builtin.append_ #[t, t] ty #[v, .slice (some ⟨n, 0, none⟩) 1 1]).run P (W.alloc (.cells #[u] T)) = .ok v' w' ∧ OwnLevs T Z w' base v' (ls ++ [l]) ∧ (v'.ownBlock = v.ownBlock ∨ v'.ownBlock = some (n + 1)) ∧ (W.alloc (.cells #[u] T)).grownBy w' v.ownBlock := by
  obtain ⟨vs, h1, h2, h3⟩ := hown
  obtain ⟨v', w', hr, ho, hg, hq⟩ := run_app2 (L := valL) (P := P) t ty T z bytes hinfo ht hz (show 0 < 1 by omega) hby (W.alloc (.cells #[u] T)) (base := base) (v := v) (xs := vs) (ys := [u]) (B := n + 1) (by rw [valL_cells]; exact h1.alloc _) (lit_val W T n hn u)
    (fun y hy c hc => by
      rw [List.mem_singleton.1 hy] at hc
      rw [show valL.enc u = [u] from rfl, List.mem_singleton] at hc
      rw [hc]
      exact lies_one hu) (by simp; omega) (by simp; omega)
  rw [valL_cells] at ho
  refine ⟨v', w', hr, ?_, hq.imp id fun e => by rw [e, World.size_alloc, hn], hg⟩
  refine OwnLevs.snoc (w1 := W.alloc (.cells #[u] T)) ⟨vs, h1, h2, h3⟩ hu hub ((Below.refl _ W).alloc (Nat.le_refl _) _) hg hq ?_
  intro vs' h2' h1'
  have e : vs' = vs := by
    rcases h1.2 with ⟨e1, e2⟩ | ⟨g, cap, cur, e1, _, e3, _, _, _, e4⟩
    · have a1 : vs = [] := List.eq_nil_of_length_eq_zero e2
      have a2 : vs' = [] := List.eq_nil_of_length_eq_zero (by rw [h2', ← h2]; exact e2)
      rw [a1, a2]
    · rcases h1'.2 with ⟨f1, f2⟩ | ⟨g', cap', cur', f1, _, f3, _, _, _, f4⟩
      · rw [f1] at e1; cases e1
      · rw [e1] at f1
        injection f1 with f1 _ _
        injection f1 with f1
        injection f1 with f1 _ _
        subst f1
        rw [e3] at f3
        injection f3 with f3
        injection f3 with f3 _ _
        subst f3
        rw [← e4, ← f4, h2', ← h2]
  rw [e]
  exact ho

/-- The operation, for the walk: 'x.Levels = append(x.Levels, l)', the level as a new literal of one. -/
theorem wpList_lev {P : Program} {T t : TypeId} {Z : Nat → Prop} (z : Value) (bytes : Nat) (hinfo : (P.info? T).map (fun i => (i.zero, i.size, i.bytes)) = some (some z, 1, bytes)) (ht : P.underlying t = some (.slice T)) (hz : z.cells.size = 1) (hby : bytes ≤ 1000)
    (W : World) {ops : Array Oper} {rest : List Oper} {o : Oper} {a : Act} {Q : Exit → Act → World → Prop} (hgd : o.guard = none) (s x : Operand)
    (hop : o.op = Op.call { callee := Callee.builtin Builtin.append, args := #[s, x], argTypes := #[t, t] }) (base : Nat) (v u : Value) (ls : List (List Sp)) (l : List Sp) (hs : a.eval s = v) (hown : OwnLevs T Z W base v ls)
    (n : Nat) (hn : W.heap.size = n) (hx : a.eval x = .slice (some ⟨n, 0, none⟩) 1 1) (hu : Lies spL W W.heap.size u l) (hub : l ≠ [] → ∀ b, u.ownBlock = some b → Z b ∧ v.ownBlock ≠ some b ∧ Ty W 44 b) (hl : ls.length ≤ 1000000) (hbase : base ≤ W.heap.size)
    (hK : ∀ v' w', OwnLevs T Z w' base v' (ls ++ [l]) → (v'.ownBlock = v.ownBlock ∨ v'.ownBlock = some (n + 1)) → (W.alloc (.cells #[u] T)).grownBy w' v.ownBlock → wpList P ops Q rest (a.put o.dst v') w') :
    wpList P ops Q (o :: rest) a (W.alloc (.cells #[u] T)) := by
  refine wpList_plain hgd fun K hK' => ?_
  obtain ⟨v', w', hr, h1, h2, h3⟩ := run_lev o.type z bytes hinfo ht hz hby W base v u ls l hown n hn hu hub hl hbase
  unfold Oper.wp execOp
  simp only [hop, resolve, invoke, builtin, Sem.run_bind, Sem.run_pure, Result.andThen_ok, List.map_toArray, List.map_cons, List.map_nil, hs, hx, hr]
  exact hK' _ _ (hK v' w' h1 h2 h3)
/-- The same inside a fence. -/
theorem wpListIn_lev {F : Fence} {m : Nat} {P : Program} {T t : TypeId} {Z : Nat → Prop} (z : Value) (bytes : Nat) (hinfo : (P.info? T).map (fun i => (i.zero, i.size, i.bytes)) = some (some z, 1, bytes)) (ht : P.underlying t = some (.slice T)) (hz : z.cells.size = 1) (hby : bytes ≤ 1000)
    (W : World) {ops : Array Oper} {rest : List Oper} {o : Oper} {a : Act} {Q : Exit → Act → World → Prop} (hgd : o.guard = none) (s x : Operand)
    (hop : o.op = Op.call { callee := Callee.builtin Builtin.append, args := #[s, x], argTypes := #[t, t] }) (base : Nat) (v u : Value) (ls : List (List Sp)) (l : List Sp) (hs : a.eval s = v) (hown : OwnLevs T Z W base v ls)
    (n : Nat) (hn : W.heap.size = n) (hx : a.eval x = .slice (some ⟨n, 0, none⟩) 1 1) (hu : Lies spL W W.heap.size u l) (hub : l ≠ [] → ∀ b, u.ownBlock = some b → Z b ∧ v.ownBlock ≠ some b ∧ Ty W 44 b) (hl : ls.length ≤ 1000000) (hbase : base ≤ W.heap.size)
    (hK : ∀ v' w', OwnLevs T Z w' base v' (ls ++ [l]) → (v'.ownBlock = v.ownBlock ∨ v'.ownBlock = some (n + 1)) → (W.alloc (.cells #[u] T)).grownBy w' v.ownBlock → wpListIn F m P ops Q rest (a.put o.dst v') w') :
    wpListIn F m P ops Q (o :: rest) a (W.alloc (.cells #[u] T)) := by
  refine wpListIn_plain hgd fun K hK' => ?_
  obtain ⟨v', w', hr, h1, h2, h3⟩ := run_lev o.type z bytes hinfo ht hz hby W base v u ls l hown n hn hu hub hl hbase
  unfold Oper.wpIn
  refine ⟨?_, ?_⟩
  · simp [Oper.about, hop, resolve, Target.leads, Sem.run_pure]
  · rw [Oper.semAt_plain F _ _ (by rw [hop]; intro c hc'; cases hc')]
    simp [execOp, hop, resolve, invoke, builtin, hs, hx, hr, Result.andThen]
    exact hK' _ _ (hK v' w' h1 h2 h3)

end Go.Proofs.Rw
