/- A region that draws its order, walked by facts (Facts.lean), with a tail whose order is forced, and that may do whatever it does: the tail is walked as a list. · For the laws of stage 11: how much few levels are; what is written is bytes. · For the laws of stage 11: what is told is not long. · For RecordLists: histograms that were made, one behind the other. -/
import Derived.StillTail
import Derived.Test.YtmdknedngiggdaaJ05
import Derived.Test.YtmdknedngiggdaaJ29
import Derived.Test.YtmdknedngiggdaaJ19
import Derived.Test.YtmdknedngiggdaaJ20
import Derived.Test.YtmdknedngiggdaaJ16
section
/-
  A region that draws its order, walked by facts (Facts.lean), with a tail whose order is forced, and that may do whatever it does: the tail is walked as a list.
-/
namespace Go.Proofs.Rf
open Go Go.RowKit

theorem region_tail {P : Program} {Q : Exit → Act → World → Prop} {id : Nat} {a : Act} {w : World} {l : List Oper} {fr : (Nat → Value) → Act} (n : Nat) (ds : List Nat) (F : Nat → Value → World → Prop)
    (hm : P.follows .mixedOrders = true) (hB : headB l.toArray 0 (0 + n) a.tmps.size = true) (hds : ((List.range n).all fun i => dstOf l.toArray (0 + i) == ds.getD i 0) = true)
    (hseq : Region.seqB .any l.toArray (l.drop (0 + n)).length (0 + n) (firstN l.toArray.size (0 + n)) = true)
    (hfr : ∀ us, putL ds us 0 n a = fr us)
    (hF : ∀ i v W W', Grows W W' → F i v W → F i v W')
    (hop : ∀ i, i < n → ∀ (us : Nat → Value) (W : World), Grows w W → (∀ j, j < n → waits l.toArray i j = true → F j (us j) W) →
      wpOp P l.toArray Q i (fun a' W' => ∃ v, a' = (fr us).put (some (dstOf l.toArray i)) v ∧ Grows W W' ∧ F i v W') (fr us) W)
    (htail : ∀ (us : Nat → Value) (W : World), Grows w W → (∀ i, i < n → F i (us i) W) → wpList P l.toArray Q (l.drop n) (fr us) W) :
    (Code.region id l.toArray true).wp P Q a w := by
  refine wp_region_any hm ?_
  have hrep : Array.replicate l.toArray.size false = firstN l.toArray.size 0 := by
    apply Array.ext <;> simp [firstN]
  rw [hrep]
  have he : ∀ us, putAll l.toArray us 0 n a = fr us := fun us => by
    rw [← hfr]
    refine putL_eq n fun i hi => ?_
    have := List.all_eq_true.1 hds i (List.mem_range.2 hi)
    exact eq_of_beq this
  have hd : ∀ {W : World}, Grows w.drew W → Grows w W := fun h => ⟨h.os, h.tape, h.output, h.size, h.block⟩
  have := wpAny_facts (P := P) (Q := Q) (ops := l.toArray) (a0 := a) (w0 := w.drew) (n := n) 0 Grows (Grows.refl _) (fun h k => h.trans k) F hF hB ?_ (fun us W hG hf => ?_)
  · simpa using this
  · intro i hsi hi us W hG hf
    rw [he]
    exact hop i (by omega) us W (hd hG) (fun j hj hw => hf j (by omega) (by omega) hw)
  · have h := htail us W (hd hG) (fun i hi => hf i (by omega) (by omega))
    have e : l.toArray.size - (0 + n) = (l.drop (0 + n)).length := by simp
    rw [e, he]
    refine wpAny_of_seq (l.drop (0 + n)) (0 + n) _ _ _ (fun j => by simp [List.getElem?_drop]) hseq ?_
    rw [Nat.zero_add]
    exact h

end Go.Proofs.Rf
end
section
/- For the laws of stage 11: how much few levels are; what is written is bytes. -/
namespace Go.Proofs.Lh
theorem flat_few {ls : Lv} (hl : ls.length ≤ 60) (h : ∀ l ∈ ls, l.length ≤ 40) : ls.flatten.length ≤ 20000 := by
  have key : ∀ ls : Lv, (∀ l ∈ ls, l.length ≤ 40) → ls.flatten.length ≤ 40 * ls.length := by
    intro ls
    induction ls with
    | nil => intro _; simp
    | cons l ls ih =>
      intro h
      have h1 := h l List.mem_cons_self
      have h2 := ih fun x hx => h x (List.mem_cons_of_mem _ hx)
      rw [List.flatten_cons, List.length_append, List.length_cons]
      omega
  have := key ls h
  omega
end Go.Proofs.Lh
namespace Go.Proofs.Rc
open Go.Proofs.Vm Go.Proofs.Lh
theorem okB_app {a b : List Int} (ha : okB a) (hb : okB b) : okB (a ++ b) := fun x hx => (List.mem_append.1 hx).elim (ha x) (hb x)
theorem ok_vput (n : Nat) : okB (vput n) := vput_bounds n
theorem ok_flat {α : Type} {f : α → List Int} (l : List α) (h : ∀ x ∈ l, okB (f x)) : okB (l.flatMap f) := fun y hy => by
  obtain ⟨x, h1, h2⟩ := List.mem_flatMap.1 hy
  exact h x h1 y h2
theorem raw_ok (x : Raw) : okB (rawW x) := by
  unfold rawW
  refine okB_app (ok_vput _) (okB_app (ok_vput _) (okB_app (ok_vput _) (ok_flat _ fun l _ => ?_)))
  unfold levelW
  refine okB_app (ok_vput _) (ok_flat _ fun p _ => ?_)
  exact okB_app (ok_vput _) (ok_vput _)
theorem put_ok (m : Hm) : okB (putM m) := by
  unfold putM
  split
  · exact raw_ok _
  · intro x hx
    cases hx
end Go.Proofs.Rc
end
section
/- For the laws of stage 11: what is told is not long. -/
namespace Go.Proofs.Rc
open Go.Proofs.Vm Go.Proofs.Lh
open Go.Proofs.Lm (Sp)
theorem chk_lens {k g : Int} {ls : Lv} (h : chk k g ls = 0) : ls.length ≤ 52 ∧ ∀ i, (lev ls i).length ≤ 1025 := by
  obtain ⟨⟨h1, h2⟩, -, h5⟩ := Rc.chk_zero h
  obtain ⟨g1, g2, -⟩ := good_parts h5
  refine ⟨g2, fun i => ?_⟩
  rcases Nat.lt_or_ge i ls.length with hi | hi
  · have := g1 i hi
    unfold levOk at this
    rw [decide_eq_true_iff] at this
    have hr : rm k.toNat i ≤ k.toNat + 1 := by unfold rm; split <;> omega
    omega
  · rw [lev_ge hi]
    simp
/-- What Take tells may be, or is the zero histogram. -/
theorem take_told (bs : List Int) (e : Int) : chk (takeM bs e).2.2.1 (takeM bs e).2.2.2.1 (takeM bs e).2.2.2.2 = 0 ∨ (takeM bs e).2.2 = (0, 0, []) := by
  unfold takeM
  split
  · exact .inr rfl
  · split
    · exact .inr rfl
    · rename_i h
      exact .inl (by simpa using h)
theorem one_told (bs : List Int) : chk (oneM bs).1.1 (oneM bs).1.2.1 (oneM bs).1.2.2 = 0 ∨ (oneM bs).1 = (0, 0, []) := by
  unfold oneM
  split
  · exact .inr rfl
  · exact take_told bs 0
theorem told_lens {m : Hm} (h : chk m.1 m.2.1 m.2.2 = 0 ∨ m = (0, 0, [])) : m.2.2.length ≤ 52 ∧ ∀ i, (lev m.2.2 i).length ≤ 1025 := by
  rcases h with h | rfl
  · exact chk_lens h
  · refine ⟨by simp, fun i => ?_⟩
    rw [lev_ge (by simp)]
    simp
theorem pw_ge : ∀ l : List (Nat × Nat), l.length ≤ (l.flatMap pairW).length
  | [] => by simp
  | p :: l => by
    have ih := pw_ge l
    have h1 := vput_len_pos p.1
    rw [List.flatMap_cons, List.length_append, List.length_cons]
    unfold pairW at ih ⊢
    rw [List.length_append]
    omega
theorem lw_ge : ∀ x : List (List (Nat × Nat)), x.flatten.length ≤ (x.flatMap levelW).length
  | [] => by simp
  | l :: x => by
    have ih := lw_ge x
    have h1 := pw_ge l
    rw [List.flatMap_cons, List.length_append, List.flatten_cons, List.length_append]
    unfold levelW at ih ⊢
    rw [List.length_append]
    omega
/-- There are no more buckets than bytes. -/
theorem put_cnt {m : Hm} (h : chk m.1 m.2.1 m.2.2 = 0) : m.2.2.flatten.length ≤ (putM m).length := by
  unfold putM
  rw [if_pos h]
  unfold rawW ofM
  dsimp only
  have h1 := lw_ge (encLv 0 m.2.2.reverse)
  rw [encLv_flat] at h1
  have h2 : m.2.2.reverse.flatten.length = m.2.2.flatten.length := by simp
  rw [List.length_append, List.length_append, List.length_append]
  omega
/-- What was made, and merged, may be. -/
theorem good_chk {m : Hm} (h : Lh.Good m) : chk m.1 m.2.1 m.2.2 = 0 := by
  have hg := h.made.good h.early
  have hk := h.made
  unfold chk
  have h2 : 2 ≤ m.1 ∧ m.1 ≤ 1024 := by
    have := hk.k2
    have := hk.k1
    have := h.pos
    omega
  rw [if_pos ⟨h2, h.gen0, h.gen4⟩, if_pos hg]
end Go.Proofs.Rc
namespace Go.Proofs.Ytmdknedngiggdaa
open Go.RowKit Go.Shelf Go.Proofs.Vm Go.Proofs.Rw Go.Proofs.Lh
open Go.Proofs.Rc (takeM oneM)
theorem ToldH.grow {w w' : World} {v : Value} {m : Hm} (h : ToldH w v m) (hb : Below w.heap.size w w') : ToldH w' v m := by
  obtain ⟨A, c, hv, hL⟩ := h
  exact ⟨A, c, hv, hL.grow hb⟩
/-- The law's same of one told twice. -/
theorem same_told {m : Hm} (hm : chk m.1 m.2.1 m.2.2 = 0 ∨ m = (0, 0, [])) (W : World) (A A2 : Option Addr) (n c c2 : Nat) (hn : m.2.2.length = n) (h : Levs W W.heap.size (.slice A n c) m.2.2) (h2 : Levs W W.heap.size (.slice A2 n c2) m.2.2) :
    Calls Try.prog 18 #[.agg #[.int .i64 m.1, .int .i64 m.2.1, .slice A n c], .agg #[.int .i64 m.1, .int .i64 m.2.1, .slice A2 n c2]] W fun e w' => e = .returned (.bool true) ∧ Below W.heap.size W w' := by
  subst hn
  obtain ⟨l1, l2⟩ := Rc.told_lens hm
  have := lsame_any m.1 m.2.1 m.1 m.2.1 m.2.2 m.2.2 (by omega) (fun i => by have := l2 i; omega) W A A2 c c2 h h2
  rw [show sameB m.1 m.2.1 m.1 m.2.1 m.2.2 m.2.2 = true from by unfold sameB; simp] at this
  exact this
end Go.Proofs.Ytmdknedngiggdaa
namespace Go.Proofs.Ytmdknedngiggdaa
open Go.RowKit Go.Shelf Go.Proofs.Vm Go.Proofs.Rw Go.Proofs.Lh
/-- A reader is written: levels stay. -/
theorem Levs.offR {w w' : World} {rb : Nat} {bs : List Int} {e : Int} {v : Value} {ls : List (List Sp)} (h : Levs w w.heap.size v ls) (hr : Rd w rb bs e) (hg : w.grownBy w' (some rb)) : Levs w' w'.heap.size v ls := by
  obtain ⟨u, hp, -⟩ := hr
  refine Levs.keepTy h hg.size fun b hb => ?_
  rcases hb with hb | hb
  · exact hg.block b hb.lt fun e => by
      injection e with e
      exact (ty_of hp).ne hb (by decide) e.symm
  · exact hg.block b hb.lt fun e => by
      injection e with e
      exact (ty_of hp).ne hb (by decide) e.symm
end Go.Proofs.Ytmdknedngiggdaa
namespace Go.Proofs.Rc
open Go.Proofs.Vm Go.Proofs.Lh
theorem cnt_flat : ∀ ls : Lv, cnt ls = ls.flatten.length
  | [] => rfl
  | l :: ls => by rw [cnt, cnt_flat ls, List.flatten_cons, List.length_append]
theorem made_flat {k : Nat} {ls : Lv} (h : Made k ls) (hk : k ≤ 31) : ls.flatten.length ≤ 1696 := by
  rw [← cnt_flat]
  have h1 := cnt_few (k := k) (by have := h.k2; omega) h.few
  have h2 := h.len
  have h3 : (k + 1) * ls.length ≤ 32 * 53 := Nat.mul_le_mul (by omega) h2
  omega
theorem put_len {m : Hm} (h : chk m.1 m.2.1 m.2.2 = 0) : (putM m).length ≤ 560 + 20 * m.2.2.flatten.length := by
  obtain ⟨⟨h1, h2⟩, ⟨h3, h4⟩, h5⟩ := Rc.chk_zero h
  obtain ⟨l1, l2⟩ := chk_lens h
  obtain ⟨-, -, g3⟩ := good_parts h5
  unfold putM
  rw [if_pos h]
  have e : rawW (ofM m) = vput m.1.toNat ++ vput m.2.1.toNat ++ vput m.2.2.length ++ wTo m.2.2.reverse m.2.2.length := (wTo_all _ _ _).symm
  rw [e]
  have a1 := vput_len10 m.1.toNat (by omega)
  have a2 := vput_len10 m.2.1.toNat (by omega)
  have a3 := vput_len10 m.2.2.length (by omega)
  have a4 := wTo_len (R := m.2.2.reverse) g3 (fun l hl => by
    rw [List.mem_reverse] at hl
    obtain ⟨i, hi, rfl⟩ := List.getElem_of_mem hl
    have := l2 i
    rw [lev_lt hi] at this
    omega) m.2.2.length
  have h2 : m.2.2.reverse.flatten.length = m.2.2.flatten.length := by simp
  rw [List.length_reverse, h2] at a4
  simp only [List.length_append]
  omega
theorem take_ok {bs : List Int} (h : okB bs) (k : Nat) : okB (bs.take k) := fun x hx => h x (List.mem_of_mem_take hx)
end Go.Proofs.Rc
namespace Go.Proofs.Ytmdknedngiggdaa
open Go.RowKit Go.Proofs.Vm
/-- The first k bytes, with the room that there was. -/
theorem Holds.cut' {w : World} {B : Nat} {A : Option Addr} {n cap : Nat} {bs : List Int} (h : Holds w B (.slice A n cap) bs) (k : Nat) (hk : k ≤ bs.length) : Holds w B (.slice A k cap) (bs.take k) := by
  have h' := h
  obtain ⟨A', cap', hv, -, -, -⟩ := h'
  injection hv with _ e2 _
  subst e2
  exact h.take k hk
end Go.Proofs.Ytmdknedngiggdaa
end
section
/- For RecordLists: histograms that were made, one behind the other. -/
namespace Go.Proofs.Rc
open Go.Proofs.Vm Go.Proofs.Lh
open Go.Proofs.Lm (Sp)
/-- What was made of deeds. -/
def mOf (kk : Nat) (ds : List Sp) : Hm := ((kk : Int), 0, (play kk ds (min ds.length 30)).2)
def bOf (kk : Nat) (ds : List Sp) : List Int := putM (mOf kk ds)
theorem mOf_good {kk : Nat} (h2 : 2 ≤ kk) (h1 : kk ≤ 31) (ds : List Sp) : Lh.Good (mOf kk ds) := good_play kk h2 (by omega) ds _ (Nat.min_le_left _ _) (by omega) 0 (by omega) (by omega)
theorem mOf_chk {kk : Nat} (h2 : 2 ≤ kk) (h1 : kk ≤ 31) (ds : List Sp) : chk (mOf kk ds).1 (mOf kk ds).2.1 (mOf kk ds).2.2 = 0 := good_chk (mOf_good h2 h1 ds)
theorem mOf_flat {kk : Nat} (h2 : 2 ≤ kk) (h1 : kk ≤ 31) (ds : List Sp) : (mOf kk ds).2.2.flatten.length ≤ 1696 := by
  have h := (mOf_good h2 h1 ds).made
  have e : (mOf kk ds).1.toNat = kk := Int.toNat_natCast kk
  rw [e] at h
  exact made_flat h h1
theorem bOf_len {kk : Nat} (h2 : 2 ≤ kk) (h1 : kk ≤ 31) (ds : List Sp) : (bOf kk ds).length ≤ 34480 := by
  have a := put_len (mOf_chk h2 h1 ds)
  have b := mOf_flat h2 h1 ds
  unfold bOf
  omega
theorem cat_succ {α : Type} (f : α → List Int) (l : List α) (i : Nat) (h : i < l.length) : (l.take (i + 1)).flatMap f = (l.take i).flatMap f ++ f l[i] := by
  rw [List.take_succ_eq_append_getElem h, List.flatMap_append, List.flatMap_cons, List.flatMap_nil, List.append_nil]
theorem cat_drop {α : Type} (f : α → List Int) (l : List α) (i : Nat) (h : i < l.length) : (l.drop i).flatMap f = f l[i] ++ (l.drop (i + 1)).flatMap f := by
  rw [← List.getElem_cons_drop h, List.flatMap_cons]
theorem cat_len {kk : Nat} (h2 : 2 ≤ kk) (h1 : kk ≤ 31) : ∀ l : List (List Sp), (l.flatMap (bOf kk)).length ≤ 34480 * l.length
  | [] => by simp
  | d :: l => by
    have a := bOf_len h2 h1 d
    have b := cat_len h2 h1 l
    rw [List.flatMap_cons, List.length_append, List.length_cons]
    omega
theorem take_bOf {kk : Nat} (h2 : 2 ≤ kk) (h1 : kk ≤ 31) (ds : List Sp) (more : List Int) : takeM (bOf kk ds ++ more) 0 = (more, 0, mOf kk ds) := take_form.back _ more (mOf_chk h2 h1 ds)
theorem cat_ok {kk : Nat} (l : List (List Sp)) : okB (l.flatMap (bOf kk)) := ok_flat _ fun _ _ => put_ok _
end Go.Proofs.Rc
end
