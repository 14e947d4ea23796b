/-
  A region that draws its order, walked by facts (Facts.lean), with a tail whose order is forced, and that may do whatever it does: the tail is walked as a list.
-/
import Derived.StillTail
import Derived.Test.YtdejljncodpkeaaFacts
namespace Go.Proofs.Rf
open Go Go.RowKit

theorem region_tail {P : Program} {Q : Exit → Act → World → Prop} {id : Nat} {a : Act} {w : World} {l : List Oper} {fr : (Nat → Value) → Act} (n : Nat) (ds : List Nat) (F : Nat → Value → World → Prop)
    (hm : P.follows .mixedOrders = true) (hB : headB l.toArray 0 (0 + n) a.tmps.size = true) (hds : ((List.range n).all fun i => dstOf l.toArray (0 + i) == ds.getD i 0) = true)
    (hseq : Region.seqB .any l.toArray (l.drop (0 + n)).length (0 + n) (firstN l.toArray.size (0 + n)) = true)
    (hfr : ∀ us, putL ds us 0 n a = fr us)
    (hF : ∀ i v W W', Grows W W' → F i v W → F i v W')
    (hop : ∀ i, i < n → ∀ (us : Nat → Value) (W : World), Grows w W → (∀ j, j < n → waits l.toArray i j = true → F j (us j) W) →
      wpOp P l.toArray Q i (fun a' W' => ∃ v, a' = (fr us).put (some (dstOf l.toArray i)) v ∧ Grows W W' ∧ F i v W') (fr us) W)
    (htail : ∀ (us : Nat → Value) (W : World), Grows w W → (∀ i, i < n → F i (us i) W) → wpList P l.toArray Q (l.drop n) (fr us) W) :
    (Code.region id l.toArray true).wp P Q a w := by
  refine wp_region_any hm ?_
  have hrep : Array.replicate l.toArray.size false = firstN l.toArray.size 0 := by
    apply Array.ext <;> simp [firstN]
  rw [hrep]
  have he : ∀ us, putAll l.toArray us 0 n a = fr us := fun us => by
    rw [← hfr]
    refine putL_eq n fun i hi => ?_
    have := List.all_eq_true.1 hds i (List.mem_range.2 hi)
    exact eq_of_beq this
  have hd : ∀ {W : World}, Grows w.drew W → Grows w W := fun h => ⟨h.os, h.tape, h.output, h.size, h.block⟩
  have := wpAny_facts (P := P) (Q := Q) (ops := l.toArray) (a0 := a) (w0 := w.drew) (n := n) 0 Grows (Grows.refl _) (fun h k => h.trans k) F hF hB ?_ (fun us W hG hf => ?_)
  · simpa using this
  · intro i hsi hi us W hG hf
    rw [he]
    exact hop i (by omega) us W (hd hG) (fun j hj hw => hf j (by omega) (by omega) hw)
  · have h := htail us W (hd hG) (fun i hi => hf i (by omega) (by omega))
    have e : l.toArray.size - (0 + n) = (l.drop (0 + n)).length := by simp
    rw [e, he]
    refine wpAny_of_seq (l.drop (0 + n)) (0 + n) _ _ _ (fun j => by simp [List.getElem?_drop]) hseq ?_
    rw [Nat.zero_add]
    exact h

end Go.Proofs.Rf
