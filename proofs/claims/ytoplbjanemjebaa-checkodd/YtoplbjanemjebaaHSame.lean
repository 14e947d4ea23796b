/- The contracts of hist's each, other.has and Same. -/
import Derived.Test.YtoplbjanemjebaaHLevels
namespace Go.Proofs.Ytoplbjanemjebaa
open Go.RowKit Go.Shelf Go.Proofs.Rw Go.Proofs.Lh Go.Proofs.Rn

attribute [local go_sem] Oper.semAt_some

theorem heap_four (w : World) (o0 o1 o2 o3 : Obj) : ∃ W, W = (((w.alloc o0).alloc o1).alloc o2).alloc o3 ∧ W.heap.size = w.heap.size + 4 ∧ W.heap[w.heap.size]? = some o0 ∧ W.heap[w.heap.size + 1]? = some o1 ∧ W.heap[w.heap.size + 1 + 1]? = some o2 ∧ W.heap[w.heap.size + 1 + 1 + 1]? = some o3 ∧ Below w.heap.size w W := by
  obtain ⟨W3, rfl, hsz, p0, p1, p2, hb⟩ := heap_three w o0 o1 o2
  refine ⟨_, rfl, by simp [hsz], ?_, ?_, ?_, ?_, hb.alloc (by omega) _⟩
  · rw [Below.heap_alloc _ _ _ (by omega)]; exact p0
  · rw [Below.heap_alloc _ _ _ (by omega)]; exact p1
  · rw [Below.heap_alloc _ _ _ (by omega)]; exact p2
  · have := World.alloc_heap_new (((w.alloc o0).alloc o1).alloc o2) o3
    rw [hsz] at this
    exact this

/-- What holds of a call holds of it within a round. -/
theorem callsIn_round {F : Fence} {n : Nat} {P : Program} {f : FuncId} {args : Array Value} {w : World} {R : Ending → World → Prop} (l : Nat) (h : CallsIn F n P f args w R) : CallsIn (F.inRound l) n P f args w R := h

/-- Whether all levels of one are those of the other. -/
def allSame (la lb : Lv) : Bool := decide (∀ i, i < la.length → lev lb i = lev la i)
theorem allSame_eq {la lb : Lv} (h : la.length = lb.length) : allSame la lb = decide (la = lb) := by
  unfold allSame
  rw [decide_eq_decide]
  constructor
  · intro hh
    refine List.ext_getElem h fun i h1 h2 => ?_
    have := hh i h1
    rw [lev_lt h1, lev_lt h2] at this
    exact this.symm
  · rintro rfl i _
    rfl

end Go.Proofs.Ytoplbjanemjebaa
