/- The contracts of the document's own level (skylightref05). · The contracts of hist's small functions: mayBe, at, Last, New, slices.Equal and slices.Clone as hist calls them. · The contracts of hist.levels, its function that is ranged over, Total, each, other.has, Same. · The contracts of hist's each, other.has and Same. -/
import Derived.BigQuiet
import Derived.Deep.CutRange
import Derived.Test.YthncmjimfkbofaaJ04
import Derived.RegionTactic
import Derived.WalkSpells
import Derived.Test.YthncmjimfkbofaaJ03
import Derived.Test.YthncmjimfkbofaaJ01
import Derived.Shelf.Abstract
import Derived.Shelf.RegionOpen
import Derived.WalkKit
import Derived.OwnWalkIn
import Derived.TacticsInMore
import Derived.LoopNIn
import Derived.LoopIn
import Derived.Deep.OwnRows
import Derived.Test.YthncmjimfkbofaaJ02
section
/- The contracts of the document's own level (skylightref05). -/
namespace Go.Proofs.Ythncmjimfkbofaa
open Go.RowKit Go.Proofs.Rw
open Go.Proofs.Lm (el two pairs wentN stayN leftN went stay)

/-- What 'Push' tells: two rows, and a number. -/
def RPushed (w w' : World) (e : Ending) (stays wents : List Sp) (k : Nat) : Prop :=
  ∃ v1 v2, e = .returned (.tuple #[v1, v2, .int .u64 (k : Int)]) ∧ Lies spL w' w'.heap.size v1 stays ∧ Lies spL w' w'.heap.size v2 wents ∧ Below w.heap.size w w'

theorem below_drewN {B : Nat} {a w : World} (h : Below B a w) (n : Nat) : Below B a (w.drewN n) := ⟨h.os, h.tape, h.output, h.size, h.block⟩

end Go.Proofs.Ythncmjimfkbofaa
end
section
/- The contracts of hist's small functions: mayBe, at, Last, New, slices.Equal and slices.Clone as hist calls them. -/
namespace Go.Proofs.Ythncmjimfkbofaa
open Go.RowKit Go.Proofs.Rw Go.Proofs.Lh

theorem ret_b {a b : Bool} (h : a = b) : Ending.returned (.bool a) = .returned (.bool b) := by rw [h]

/-- A histogram as a value. -/
abbrev hv (k g : Int) (s : Value) : Value := .agg #[.int .i64 k, .int .i64 g, s]

/-- What Last tells. -/
abbrev lastV (ls : Lv) : Ending := .returned (.tuple #[.int .u64 (((lastOf ls).getD 0 : Nat) : Int), .bool (lastOf ls).isSome])
theorem lastOf_nil {ls : Lv} (h : (lev ls 0).length = 0) : lastOf ls = none := by
  cases ls with
  | nil => rfl
  | cons l ls =>
    have : l = [] := List.eq_nil_of_length_eq_zero h
    subst this
    rfl
theorem lastOf_at {ls : Lv} {n : Nat} (h : n + 1 = (lev ls 0).length) : lastOf ls = some (lev ls 0)[n].2 := by
  cases ls with
  | nil => simp [lev] at h
  | cons l ls =>
    have e : lev (l :: ls) 0 = l := rfl
    simp only [e] at h ⊢
    rw [lastOf, List.getLast?_eq_getElem?, show l.length - 1 = n by omega, List.getElem?_eq_getElem (by omega)]
    rfl


/-- What New and Add tell: a histogram, and an error's number. -/
abbrev hret (h : Value) (e : Int) : Ending := .returned (.tuple #[h, .int .i64 e])

end Go.Proofs.Ythncmjimfkbofaa
end
section
/- The contracts of hist.levels, its function that is ranged over, Total, each, other.has, Same. -/
namespace Go.Proofs.Ythncmjimfkbofaa
open Go.RowKit Go.Shelf Go.Proofs.Rw Go.Proofs.Lh Go.Proofs.Rn

attribute [local go_sem] Oper.semAt_some

/-- What is handed over in a round: a level's number, and its slice. -/
structure Yl where
  i : Nat
  A : Option Addr
  n : Nat
  c : Nat
abbrev encY (x : Yl) : Array Value := #[.int .i64 (x.i : Int), .slice x.A x.n x.c]

/-- Blocks below B stay as they were. -/
structure Kb (B : Nat) (W W' : World) : Prop where
  size : W.heap.size ≤ W'.heap.size
  block : ∀ b, b < B → W'.heap[b]? = W.heap[b]?
theorem Kb.refl (B : Nat) (W : World) : Kb B W W := ⟨Nat.le_refl _, fun _ _ => rfl⟩
theorem Kb.trans {B : Nat} {X Y Z : World} (h : Kb B X Y) (k : Kb B Y Z) : Kb B X Z := ⟨Nat.le_trans h.size k.size, fun b hb => (k.block b hb).trans (h.block b hb)⟩
theorem Kb.put {B : Nat} {w : World} (hB : B ≤ w.heap.size) (W : World) (l : Nat) (o o' : Obj) (hl : w.heap.size ≤ l) (_ : W.heap[l]? = some o) (_ : o.isCells = false) : Kb B W (W.putObj l o') :=
  ⟨by simp, fun b hb => World.putObj_heap_other (by omega)⟩

/-- The round k of 'levels': the level k. -/
def PxL (B : Nat) (ls : Lv) (k : Nat) (x : Yl) (W : World) : Prop := k < ls.length ∧ x.i = k ∧ x.n = (lev ls k).length ∧ Lies spL W B (.slice x.A x.n x.c) (lev ls k)
theorem PxL.put {B : Nat} {ls : Lv} {w : World} (hB : B ≤ w.heap.size) (k : Nat) (x : Yl) (W : World) (l : Nat) (o o' : Obj) (hl : w.heap.size ≤ l) (_ : W.heap[l]? = some o) (_ : o.isCells = false) (h : PxL B ls k x W) : PxL B ls k x (W.putObj l o') :=
  ⟨h.1, h.2.1, h.2.2.1, h.2.2.2.keep fun b hb => World.putObj_heap_other (by omega)⟩

theorem heap_three (w : World) (o0 o1 o2 : Obj) : ∃ W, W = ((w.alloc o0).alloc o1).alloc o2 ∧ W.heap.size = w.heap.size + 3 ∧ W.heap[w.heap.size]? = some o0 ∧ W.heap[w.heap.size + 1]? = some o1 ∧ W.heap[w.heap.size + 1 + 1]? = some o2 ∧ Below w.heap.size w W := by
  refine ⟨_, rfl, by simp, ?_, ?_, ?_, (((Below.refl _ w).alloc (Nat.le_refl _) _).alloc (by simp) _).alloc (by simp; omega) _⟩
  · rw [Below.heap_alloc _ _ _ (by simp <;> omega), Below.heap_alloc _ _ _ (by simp)]
    exact World.alloc_heap_new w _
  · rw [Below.heap_alloc _ _ _ (by simp)]
    have := World.alloc_heap_new (w.alloc o0) o1
    simpa using this
  · have := World.alloc_heap_new ((w.alloc o0).alloc o1) o2
    simpa using this

theorem keeps_drew {B : Nat} {W W' : World} (h : KeepsFrom B W W') : KeepsFrom B W W'.drew := ⟨h.size, h.same⟩
theorem wsum {s m j d : Nat} (hd : m * 2 ^ j = d) (h : s + d ≤ 4611686018427387904) : IntKind.u64.wrap ((s : Int) + IntKind.u64.wrap (IntKind.u64.wrap (m : Int) * 2 ^ j)) = ((s + d : Nat) : Int) := by
  have h1 : 1 ≤ 2 ^ j := Nat.one_le_two_pow
  have h2 : m ≤ d := by rw [← hd]; exact Nat.le_mul_of_pos_right m (by omega)
  have e : (m : Int) * 2 ^ j = (d : Int) := by rw [← hd]; simp
  rw [IntWalk.u64_in (m : Int) ⟨by omega, by omega⟩, e, IntWalk.u64_in (d : Int) ⟨by omega, by omega⟩, IntWalk.u64_in _ ⟨by omega, by omega⟩]
  simp

end Go.Proofs.Ythncmjimfkbofaa
end
section
/- The contracts of hist's each, other.has and Same. -/
namespace Go.Proofs.Ythncmjimfkbofaa
open Go.RowKit Go.Shelf Go.Proofs.Rw Go.Proofs.Lh Go.Proofs.Rn

attribute [local go_sem] Oper.semAt_some

theorem heap_four (w : World) (o0 o1 o2 o3 : Obj) : ∃ W, W = (((w.alloc o0).alloc o1).alloc o2).alloc o3 ∧ W.heap.size = w.heap.size + 4 ∧ W.heap[w.heap.size]? = some o0 ∧ W.heap[w.heap.size + 1]? = some o1 ∧ W.heap[w.heap.size + 1 + 1]? = some o2 ∧ W.heap[w.heap.size + 1 + 1 + 1]? = some o3 ∧ Below w.heap.size w W := by
  obtain ⟨W3, rfl, hsz, p0, p1, p2, hb⟩ := heap_three w o0 o1 o2
  refine ⟨_, rfl, by simp [hsz], ?_, ?_, ?_, ?_, hb.alloc (by omega) _⟩
  · rw [Below.heap_alloc _ _ _ (by omega)]; exact p0
  · rw [Below.heap_alloc _ _ _ (by omega)]; exact p1
  · rw [Below.heap_alloc _ _ _ (by omega)]; exact p2
  · have := World.alloc_heap_new (((w.alloc o0).alloc o1).alloc o2) o3
    rw [hsz] at this
    exact this

/-- What holds of a call holds of it within a round. -/
theorem callsIn_round {F : Fence} {n : Nat} {P : Program} {f : FuncId} {args : Array Value} {w : World} {R : Ending → World → Prop} (l : Nat) (h : CallsIn F n P f args w R) : CallsIn (F.inRound l) n P f args w R := h

/-- Whether all levels of one are those of the other. -/
def allSame (la lb : Lv) : Bool := decide (∀ i, i < la.length → lev lb i = lev la i)
theorem allSame_eq {la lb : Lv} (h : la.length = lb.length) : allSame la lb = decide (la = lb) := by
  unfold allSame
  rw [decide_eq_decide]
  constructor
  · intro hh
    refine List.ext_getElem h fun i h1 h2 => ?_
    have := hh i h1
    rw [lev_lt h1, lev_lt h2] at this
    exact this.symm
  · rintro rfl i _
    rfl

end Go.Proofs.Ythncmjimfkbofaa
end
