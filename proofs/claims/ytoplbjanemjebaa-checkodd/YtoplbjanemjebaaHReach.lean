/- The contract of the function that hist.reached tells: it is ranged over. -/
import Derived.Test.YtoplbjanemjebaaFacts
import Derived.Test.YtoplbjanemjebaaHRefuse
namespace Go.Proofs.Ytoplbjanemjebaa
open Go.RowKit Go.Shelf Go.Proofs.Rw Go.Proofs.Lh Go.Proofs.Rn Go.Proofs.Rf
open Go.Proofs.Lm (stay went leftN)

attribute [local go_sem] Oper.semAt_some

/-- What a round keeps: blocks below B, and all cells but those of slices of buckets, and of slices of these. -/
structure Kt (B : Nat) (W W' : World) : Prop where
  size : W.heap.size ≤ W'.heap.size
  block : ∀ b, b < B → W'.heap[b]? = W.heap[b]?
  typed : ∀ (b : Nat) (cs : Array Value) (t : TypeId) (fr : Nat × Nat), W.heap[b]? = some (Obj.cells cs t fr) → t ≠ 45 → t ≠ 22 → W'.heap[b]? = W.heap[b]?
theorem Kt.refl (B : Nat) (W : World) : Kt B W W := ⟨Nat.le_refl _, fun _ _ => rfl, fun _ _ _ _ _ _ _ => rfl⟩
theorem Kt.trans {B : Nat} {X Y Z : World} (h : Kt B X Y) (k : Kt B Y Z) : Kt B X Z :=
  ⟨Nat.le_trans h.size k.size, fun b hb => (k.block b hb).trans (h.block b hb), fun b cs t fr e h1 h2 => (k.typed b cs t fr ((h.typed b cs t fr e h1 h2).trans e) h1 h2).trans (h.typed b cs t fr e h1 h2)⟩
theorem Kt.put {B : Nat} {w : World} (hB : B ≤ w.heap.size) (W : World) (l : Nat) (o o' : Obj) (hl : w.heap.size ≤ l) (ho : W.heap[l]? = some o) (hc : o.isCells = false) : Kt B W (W.putObj l o') := by
  refine ⟨by simp, fun b hb => World.putObj_heap_other (by omega), fun b cs t fr e _ _ => World.putObj_heap_other fun e2 => ?_⟩
  subst e2
  rw [e] at ho
  injection ho with ho
  rw [← ho] at hc
  cases hc
theorem Kt.of_below {B : Nat} {W W' : World} (h : Below W.heap.size W W') (hB : B ≤ W.heap.size) : Kt B W W' := ⟨h.size, fun b hb => h.block b (by omega), fun b _ _ _ e _ _ => h.block b (Array.getElem?_eq_some_iff.1 e).1⟩
theorem own_base {w : World} {base base' : Nat} {v : Value} {xs : List Sp} (h : Own w base v xs) (hb : base' ≤ base) : Own w base' v xs := by
  refine ⟨h.1, ?_⟩
  rcases h.2 with h4 | ⟨g, cap, cur, hv, hg, r⟩
  · exact .inl h4
  · exact .inr ⟨g, cap, cur, hv, by omega, r⟩
theorem own_kt {B : Nat} {w w' : World} {base : Nat} {v : Value} {xs : List Sp} (h : Own w base v xs) (hk : Kt B w w') : Own w' base v xs := by
  refine ⟨h.1, ?_⟩
  rcases h.2 with h4 | ⟨g, cap, cur, hv, hg, hh, r⟩
  · exact .inl h4
  · exact .inr ⟨g, cap, cur, hv, hg, (hk.typed g _ _ _ hh (by decide) (by decide)).trans hh, r⟩
theorem own_nw {w : World} {b n : Nat} {A : Option Addr} {xs : List Sp} (h : Own w b (.slice A xs.length xs.length) xs) (e : xs.length = n) : Own w b (.slice A n n) xs := by
  subst e
  exact h

/-- The round k: the level k as it is then, in new memory. -/
def PxR (N0 : Nat) (R : Lv) (k : Nat) (x : Yl) (W : World) : Prop := k < R.length ∧ x.i = k ∧ x.n = (lev R k).length ∧ (∃ b1, x.A = some ⟨b1, 0, none⟩ ∧ N0 ≤ b1) ∧ Own W N0 (.slice x.A x.n x.c) (lev R k)
theorem PxR.put {N0 : Nat} {R : Lv} {w : World} (k : Nat) (x : Yl) (W : World) (l : Nat) (o o' : Obj) (_ : w.heap.size ≤ l) (ho : W.heap[l]? = some o) (hc : o.isCells = false) (h : PxR N0 R k x W) : PxR N0 R k x (W.putObj l o') :=
  ⟨h.1, h.2.1, h.2.2.1, h.2.2.2.1, ownsRow_putObj h.2.2.2.2 o' ho hc⟩
theorem pxR {N0 j b1 : Nat} {R : Lv} {st : List Sp} {wr wy : World} (hj : j < R.length) (hst : st = lev R j) (o1 : Own wy wr.heap.size (.slice (some ⟨b1, 0, none⟩) st.length st.length) st) (hz : N0 ≤ wr.heap.size) : PxR N0 R j ⟨j, some ⟨b1, 0, none⟩, st.length, st.length⟩ wy := by
  subst hst
  exact ⟨hj, rfl, rfl, ⟨b1, rfl, Nat.le_trans hz (o1.lt b1 rfl).1⟩, own_base o1 hz⟩

theorem room_rm (k j : Nat) : roomOf (leastI k j + 1) = rm k j := by
  unfold roomOf leastI rm
  by_cases h : j = 0
  · subst h
    simp
    omega
  · rw [if_neg h, if_neg (by omega)]
    omega
theorem least_small (k j : Nat) (hk : k ≤ 1024) : leastI k j + 1 ≤ 1000000 := by
  unfold leastI
  split <;> omega

end Go.Proofs.Ytoplbjanemjebaa
