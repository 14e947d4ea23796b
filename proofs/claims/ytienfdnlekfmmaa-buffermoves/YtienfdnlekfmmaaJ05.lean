/- The contract of level.Push. · The contracts of the document's own level (skylightref05). · The contracts of hist's small functions: mayBe, at, Last, New, slices.Equal and slices.Clone as hist calls them. · The contracts of hist.levels, its function that is ranged over, Total, each, other.has, Same. -/
import Derived.Test.YtienfdnlekfmmaaJ04
import Derived.BigQuiet
import Derived.Deep.CutRange
import Derived.RegionTactic
import Derived.WalkSpells
import Derived.Test.YtienfdnlekfmmaaJ01
import Derived.Test.YtienfdnlekfmmaaJ03
import Derived.Shelf.Abstract
import Derived.Shelf.RegionOpen
import Derived.WalkKit
import Derived.OwnWalkIn
import Derived.TacticsInMore
import Derived.LoopNIn
import Derived.LoopIn
import Derived.Deep.OwnRows
import Derived.Test.YtienfdnlekfmmaaJ02
section
/- The contract of level.Push. -/
namespace Go.Proofs.Ytienfdnlekfmmaa
open Go.RowKit Go.Proofs.Rw
open Go.Proofs.Lm (el two pairs wentN stayN leftN went stay)

/-- A row of n, of which k are there. -/
def rowTo (f : Nat → Sp) (n k : Nat) : List Sp := (List.range n).map fun j => if j < k then f j else (0, 0)
theorem rowTo_len (f : Nat → Sp) (n k : Nat) : (rowTo f n k).length = n := by simp [rowTo]
theorem rowTo_all (f : Nat → Sp) (n : Nat) : rowTo f n n = (List.range n).map f := by
  unfold rowTo
  refine List.map_congr_left fun j hj => ?_
  rw [if_pos (List.mem_range.1 hj)]
theorem rowTo_set (f : Nat → Sp) (n k : Nat) : rowTo f n (k + 1) = (rowTo f n k).set k (f k) := by
  apply List.ext_getElem
  · simp [rowTo]
  · intro i h1 h2
    simp only [rowTo, List.getElem_map, List.getElem_range, List.getElem_set]
    by_cases h : k = i
    · subst h; simp
    · rw [if_neg h]
      by_cases h' : i < k
      · rw [if_pos (by omega), if_pos h']
      · rw [if_neg (by omega), if_neg h']
theorem cells_set (xs : List Sp) (k : Nat) (a b : Nat) : spL.cells (xs.set k (a, b)) = ((spL.cells xs).set (k * 2) (.int .u64 a)).set (k * 2 + 1) (.int .u64 b) := by
  induction xs generalizing k with
  | nil => simp [Lay.cells]
  | cons x xs ih =>
    cases k with
    | zero => simp [Lay.cells, spL]
    | succ k =>
      rw [List.set_cons_succ, cells_cons, cells_cons, ih]
      show spL.enc x ++ _ = _
      rw [show spL.enc x = [.int .u64 x.1, .int .u64 x.2] from rfl, show (k + 1) * 2 = k * 2 + 1 + 1 by omega, show k * 2 + 1 + 1 + 1 = (k * 2 + 1) + 1 + 1 by omega]
      rfl
theorem made_zero (n : Nat) (f : Nat → Sp) : (madeCells (Value.agg #[.int .u64 0, .int .u64 0]).cells (n * 2)).toList = spL.cells (rowTo f n 0) := by
  apply List.ext_getElem?
  intro j
  by_cases hj : j < n * 2
  · obtain ⟨i, k, hk, rfl⟩ : ∃ i k, k < 2 ∧ j = i * 2 + k := ⟨j / 2, j % 2, by omega, by omega⟩
    have e := cells_at spL (rowTo f n 0) i k (by rw [rowTo_len]; omega) hk
    rw [show spL.size = 2 from rfl] at e
    rw [e]
    have : (rowTo f n 0)[i]'(by rw [rowTo_len]; omega) = (0, 0) := by simp [rowTo]
    rw [this]
    rcases k with _ | _ | k
    · simp [madeCells, Value.cells, spL, show i * 2 < n * 2 by omega]
    · simp [madeCells, Value.cells, spL, hj, show (i * 2 + 1) % 2 = 1 by omega]
    · omega
  · rw [List.getElem?_eq_none (by simp [madeCells]; omega), List.getElem?_eq_none (by rw [cells_len, rowTo_len]; show n * 2 ≤ j; omega)]

theorem el_min (xs : List Sp) (t j : Nat) : el xs t (min j xs.length) = el xs t j := by
  rcases Nat.lt_or_ge j xs.length with h | h
  · rw [Nat.min_eq_left (by omega)]
  · rw [Nat.min_eq_right h, Lm.el_ge (Nat.le_refl _), Lm.el_ge h]
/-- For how many there is room. -/
def roomOf (most : Int) : Nat := (max most 1).toNat

end Go.Proofs.Ytienfdnlekfmmaa
end
section
/- The contracts of the document's own level (skylightref05). -/
namespace Go.Proofs.Ytienfdnlekfmmaa
open Go.RowKit Go.Proofs.Rw
open Go.Proofs.Lm (el two pairs wentN stayN leftN went stay)

/-- What 'Push' tells: two rows, and a number. -/
def RPushed (w w' : World) (e : Ending) (stays wents : List Sp) (k : Nat) : Prop :=
  ∃ v1 v2, e = .returned (.tuple #[v1, v2, .int .u64 (k : Int)]) ∧ Lies spL w' w'.heap.size v1 stays ∧ Lies spL w' w'.heap.size v2 wents ∧ Below w.heap.size w w'

theorem below_drewN {B : Nat} {a w : World} (h : Below B a w) (n : Nat) : Below B a (w.drewN n) := ⟨h.os, h.tape, h.output, h.size, h.block⟩

end Go.Proofs.Ytienfdnlekfmmaa
end
section
/- The contracts of hist's small functions: mayBe, at, Last, New, slices.Equal and slices.Clone as hist calls them. -/
namespace Go.Proofs.Ytienfdnlekfmmaa
open Go.RowKit Go.Proofs.Rw Go.Proofs.Lh

theorem ret_b {a b : Bool} (h : a = b) : Ending.returned (.bool a) = .returned (.bool b) := by rw [h]

/-- A histogram as a value. -/
abbrev hv (k g : Int) (s : Value) : Value := .agg #[.int .i64 k, .int .i64 g, s]

/-- What Last tells. -/
abbrev lastV (ls : Lv) : Ending := .returned (.tuple #[.int .u64 (((lastOf ls).getD 0 : Nat) : Int), .bool (lastOf ls).isSome])
theorem lastOf_nil {ls : Lv} (h : (lev ls 0).length = 0) : lastOf ls = none := by
  cases ls with
  | nil => rfl
  | cons l ls =>
    have : l = [] := List.eq_nil_of_length_eq_zero h
    subst this
    rfl
theorem lastOf_at {ls : Lv} {n : Nat} (h : n + 1 = (lev ls 0).length) : lastOf ls = some (lev ls 0)[n].2 := by
  cases ls with
  | nil => simp [lev] at h
  | cons l ls =>
    have e : lev (l :: ls) 0 = l := rfl
    simp only [e] at h ⊢
    rw [lastOf, List.getLast?_eq_getElem?, show l.length - 1 = n by omega, List.getElem?_eq_getElem (by omega)]
    rfl


/-- What New and Add tell: a histogram, and an error's number. -/
abbrev hret (h : Value) (e : Int) : Ending := .returned (.tuple #[h, .int .i64 e])

end Go.Proofs.Ytienfdnlekfmmaa
end
section
/- The contracts of hist.levels, its function that is ranged over, Total, each, other.has, Same. -/
namespace Go.Proofs.Ytienfdnlekfmmaa
open Go.RowKit Go.Shelf Go.Proofs.Rw Go.Proofs.Lh Go.Proofs.Rn

attribute [local go_sem] Oper.semAt_some

/-- What is handed over in a round: a level's number, and its slice. -/
structure Yl where
  i : Nat
  A : Option Addr
  n : Nat
  c : Nat
abbrev encY (x : Yl) : Array Value := #[.int .i64 (x.i : Int), .slice x.A x.n x.c]

/-- Blocks below B stay as they were. -/
structure Kb (B : Nat) (W W' : World) : Prop where
  size : W.heap.size ≤ W'.heap.size
  block : ∀ b, b < B → W'.heap[b]? = W.heap[b]?
theorem Kb.refl (B : Nat) (W : World) : Kb B W W := ⟨Nat.le_refl _, fun _ _ => rfl⟩
theorem Kb.trans {B : Nat} {X Y Z : World} (h : Kb B X Y) (k : Kb B Y Z) : Kb B X Z := ⟨Nat.le_trans h.size k.size, fun b hb => (k.block b hb).trans (h.block b hb)⟩
theorem Kb.put {B : Nat} {w : World} (hB : B ≤ w.heap.size) (W : World) (l : Nat) (o o' : Obj) (hl : w.heap.size ≤ l) (_ : W.heap[l]? = some o) (_ : o.isCells = false) : Kb B W (W.putObj l o') :=
  ⟨by simp, fun b hb => World.putObj_heap_other (by omega)⟩

/-- The round k of 'levels': the level k. -/
def PxL (B : Nat) (ls : Lv) (k : Nat) (x : Yl) (W : World) : Prop := k < ls.length ∧ x.i = k ∧ x.n = (lev ls k).length ∧ Lies spL W B (.slice x.A x.n x.c) (lev ls k)
theorem PxL.put {B : Nat} {ls : Lv} {w : World} (hB : B ≤ w.heap.size) (k : Nat) (x : Yl) (W : World) (l : Nat) (o o' : Obj) (hl : w.heap.size ≤ l) (_ : W.heap[l]? = some o) (_ : o.isCells = false) (h : PxL B ls k x W) : PxL B ls k x (W.putObj l o') :=
  ⟨h.1, h.2.1, h.2.2.1, h.2.2.2.keep fun b hb => World.putObj_heap_other (by omega)⟩

theorem heap_three (w : World) (o0 o1 o2 : Obj) : ∃ W, W = ((w.alloc o0).alloc o1).alloc o2 ∧ W.heap.size = w.heap.size + 3 ∧ W.heap[w.heap.size]? = some o0 ∧ W.heap[w.heap.size + 1]? = some o1 ∧ W.heap[w.heap.size + 1 + 1]? = some o2 ∧ Below w.heap.size w W := by
  refine ⟨_, rfl, by simp, ?_, ?_, ?_, (((Below.refl _ w).alloc (Nat.le_refl _) _).alloc (by simp) _).alloc (by simp; omega) _⟩
  · rw [Below.heap_alloc _ _ _ (by simp <;> omega), Below.heap_alloc _ _ _ (by simp)]
    exact World.alloc_heap_new w _
  · rw [Below.heap_alloc _ _ _ (by simp)]
    have := World.alloc_heap_new (w.alloc o0) o1
    simpa using this
  · have := World.alloc_heap_new ((w.alloc o0).alloc o1) o2
    simpa using this

theorem keeps_drew {B : Nat} {W W' : World} (h : KeepsFrom B W W') : KeepsFrom B W W'.drew := ⟨h.size, h.same⟩
theorem wsum {s m j d : Nat} (hd : m * 2 ^ j = d) (h : s + d ≤ 4611686018427387904) : IntKind.u64.wrap ((s : Int) + IntKind.u64.wrap (IntKind.u64.wrap (m : Int) * 2 ^ j)) = ((s + d : Nat) : Int) := by
  have h1 : 1 ≤ 2 ^ j := Nat.one_le_two_pow
  have h2 : m ≤ d := by rw [← hd]; exact Nat.le_mul_of_pos_right m (by omega)
  have e : (m : Int) * 2 ^ j = (d : Int) := by rw [← hd]; simp
  rw [IntWalk.u64_in (m : Int) ⟨by omega, by omega⟩, e, IntWalk.u64_in (d : Int) ⟨by omega, by omega⟩, IntWalk.u64_in _ ⟨by omega, by omega⟩]
  simp

end Go.Proofs.Ytienfdnlekfmmaa
end
