/- For regions that call Add and lay what it tells into a new variable: facts that last. -/
import Derived.Test.YtoplbjanemjebaaHPlay
import Derived.Test.YtoplbjanemjebaaFacts2
namespace Go.Proofs.Ytoplbjanemjebaa
open Go.RowKit Go.Shelf Go.Proofs.Rw Go.Proofs.Lh Go.Proofs.Rf

/-- Three cells of a new block of type T are written. -/
def St3 (T : TypeId) (B : Nat) (W W' : World) : Prop :=
  ∃ (p : Nat) (x y z x' y' z' : Value), B ≤ p ∧ W.heap[p]? = some (.cells #[x, y, z] T) ∧ W'.heap[p]? = some (.cells #[x', y', z'] T) ∧ W.grownBy W' (some p)
/-- What operation j of the region does; s is the store's number. -/
def Ea (T : TypeId) (B s j : Nat) (W W' : World) : Prop := Grows W W' ∨ (j = s ∧ St3 T B W W')
theorem Ea.below {T : TypeId} {B s j : Nat} {w W W' : World} (h : Ea T B s j W W') (hg : Below B w W) (hB : B ≤ W.heap.size) : Below B w W' := by
  rcases h with h | ⟨_, p, x, y, z, x', y', z', hp, _, _, hgr⟩
  · exact hg.trans (Below.mono h hB)
  · exact hg.grown hgr hB fun k e => by cases e; exact hp
theorem levs_ea {T : TypeId} (h1 : T ≠ 45) (h2 : T ≠ 44) {B s j : Nat} {W W' : World} (h : Ea T B s j W W') {v : Value} {ls : Lv} (hL : Levs W W.heap.size v ls) : Levs W' W'.heap.size v ls := by
  rcases h with h | ⟨_, p, x, y, z, x', y', z', _, hp, _, hgr⟩
  · exact hL.grow h
  · have ht : Ty W T p := ⟨_, _, hp⟩
    exact hL.other hgr fun b e => by
      cases e
      exact ⟨fun h => Ty.ne ht h h1 rfl, fun h => Ty.ne ht h h2 rfl⟩

/-- What Add tells, as a value. -/
def Tp (K : Int) (C : Int) (R : Lv) (u : Value) (W : World) : Prop := ∃ (A : Option Addr) (c : Nat), u = .tuple #[.agg #[.int .i64 K, .int .i64 0, .slice A R.length c], .int .i64 C] ∧ Levs W W.heap.size (.slice A R.length c) R
def Hp (K : Int) (R : Lv) (u : Value) (W : World) : Prop := ∃ (A : Option Addr) (c : Nat), u = .agg #[.int .i64 K, .int .i64 0, .slice A R.length c] ∧ Levs W W.heap.size (.slice A R.length c) R
/-- A new variable. -/
def Nw3 (T : TypeId) (B : Nat) (u : Value) (W : World) : Prop := ∃ (p : Nat) (x y z : Value), u = .pointer (some ⟨p, 0, none⟩) ∧ B ≤ p ∧ W.heap[p]? = some (.cells #[x, y, z] T)
/-- What Add told lies in it. -/
def Yb3 (T : TypeId) (B : Nat) (K : Int) (R : Lv) (u : Value) (W : World) : Prop := ∃ (p : Nat) (A : Option Addr) (c : Nat), u = .pointer (some ⟨p, 0, none⟩) ∧ B ≤ p ∧ W.heap[p]? = some (.cells #[.int .i64 K, .int .i64 0, .slice A R.length c] T) ∧ Levs W W.heap.size (.slice A R.length c) R

theorem Tp.ea {T : TypeId} (h1 : T ≠ 45) (h2 : T ≠ 44) {B s j : Nat} {W W' : World} (h : Ea T B s j W W') {K C : Int} {R : Lv} {u : Value} (hf : Tp K C R u W) : Tp K C R u W' := by
  obtain ⟨A, c, a, b⟩ := hf
  exact ⟨A, c, a, levs_ea h1 h2 h b⟩
theorem Hp.ea {T : TypeId} (h1 : T ≠ 45) (h2 : T ≠ 44) {B s j : Nat} {W W' : World} (h : Ea T B s j W W') {K : Int} {R : Lv} {u : Value} (hf : Hp K R u W) : Hp K R u W' := by
  obtain ⟨A, c, a, b⟩ := hf
  exact ⟨A, c, a, levs_ea h1 h2 h b⟩
theorem Nw3.ea {T : TypeId} {B s j : Nat} {W W' : World} (h : Ea T B s j W W') {u : Value} (hf : Nw3 T B u W) : Nw3 T B u W' := by
  obtain ⟨p, x, y, z, h3, h4, h5⟩ := hf
  rcases h with h | ⟨_, p', a, b, c, a', b', c', hp, hq, hq', hgr⟩
  · exact ⟨p, x, y, z, h3, h4, (Below.block h p (lt_of h5)).trans h5⟩
  · by_cases e : p = p'
    · subst e
      exact ⟨p, a', b', c', h3, h4, hq'⟩
    · exact ⟨p, x, y, z, h3, h4, (hgr.block p (lt_of h5) (by simpa using e)).trans h5⟩
theorem Yb3.ea {T : TypeId} {B s j : Nat} {W W' : World} (h : Ea T B s j W W') (hj : j ≠ s) {K : Int} {R : Lv} {u : Value} (hf : Yb3 T B K R u W) : Yb3 T B K R u W' := by
  obtain ⟨p, A, c, h3, h4, h5, h6⟩ := hf
  rcases h with h | ⟨e, _⟩
  · exact ⟨p, A, c, h3, h4, (Below.block h p (lt_of h5)).trans h5, h6.grow h⟩
  · exact absurd e hj

/-- The store. -/
theorem st3_set {T : TypeId} {B p : Nat} {W : World} {x y z : Value} (hp : B ≤ p) (h : W.heap[p]? = some (.cells #[x, y, z] T)) (x' y' z' : Value) : St3 T B W (((W.setCell ⟨p, 0, none⟩ x').setCell ⟨p, 1, none⟩ y').setCell ⟨p, 2, none⟩ z') :=
  ⟨p, x, y, z, x', y', z', hp, h, set3 h x' y' z', grown3 x' y' z'⟩
/-- A variable of a histogram is written: levels stay. -/
theorem levs_set3 {T : TypeId} (h1 : T ≠ 45) (h2 : T ≠ 44) {p : Nat} {W : World} {x y z : Value} (h : W.heap[p]? = some (.cells #[x, y, z] T)) (x' y' z' : Value) {v : Value} {ls : Lv} (hL : Levs W W.heap.size v ls) :
    Levs (((W.setCell ⟨p, 0, none⟩ x').setCell ⟨p, 1, none⟩ y').setCell ⟨p, 2, none⟩ z') (((W.setCell ⟨p, 0, none⟩ x').setCell ⟨p, 1, none⟩ y').setCell ⟨p, 2, none⟩ z').heap.size v ls :=
  levs_ea h1 h2 (B := 0) (s := 0) (j := 0) (.inr ⟨rfl, st3_set (Nat.zero_le _) h x' y' z'⟩) hL
theorem keep3 {p q : Nat} {W : World} (hne : q ≠ p) (x' y' z' : Value) : (((W.setCell ⟨p, 0, none⟩ x').setCell ⟨p, 1, none⟩ y').setCell ⟨p, 2, none⟩ z').heap[q]? = W.heap[q]? := by
  rw [Below.heap_setCell _ _ _ _ hne, Below.heap_setCell _ _ _ _ hne, Below.heap_setCell _ _ _ _ hne]

end Go.Proofs.Ytoplbjanemjebaa
