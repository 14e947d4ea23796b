/- The contracts of record's ticks and buckets. · The contracts of record.ticks and record.buckets. · The contract of record.read. · The document's own answers: skylightref01.Put, end, Take. -/
import Derived.Test.YtmdknedngiggdaaJ24
import Derived.Test.YtmdknedngiggdaaJ03
import Derived.WalkKit
import Derived.OwnWalk
import Derived.LoopTactic
import Derived.Test.YtmdknedngiggdaaJ23
section
/- The contracts of record's ticks and buckets. -/
namespace Go.Proofs.Rc
open Go.Proofs.Vm Go.Proofs.Lh
open Go.Proofs.Lm (Sp)
/-- A row of n, of which the first ones are there. -/
def rowP {α : Type} (z : α) (xs : List α) (n : Nat) : List α := xs ++ List.replicate (n - xs.length) z
theorem rowP_len {α : Type} (z : α) (xs : List α) (n : Nat) (h : xs.length ≤ n) : (rowP z xs n).length = n := by
  unfold rowP
  rw [List.length_append, List.length_replicate]
  omega
theorem rowP_set {α : Type} (z y : α) (xs : List α) (n : Nat) (h : xs.length < n) : (rowP z xs n).set xs.length y = rowP z (xs ++ [y]) n := by
  unfold rowP
  rw [List.set_append_right _ _ (Nat.le_refl _), Nat.sub_self, show n - xs.length = (n - (xs ++ [y]).length) + 1 by simp; omega, List.replicate_succ]
  simp
theorem rowP_all {α : Type} (z : α) (xs : List α) : rowP z xs xs.length = xs := by
  unfold rowP
  simp
theorem rowP_nil {α : Type} (z : α) (n : Nat) : rowP z [] n = List.replicate n z := by
  unfold rowP
  simp
end Go.Proofs.Rc
namespace Go.Proofs.Ytmdknedngiggdaa
open Go.RowKit Go.Shelf Go.Proofs.Vm Go.Proofs.Rw Go.Proofs.Lh
open Go.Proofs.Rc (numR pairR levelR vecR satT satSp maxT rowP)

/-- All blocks but these two stay as they were. -/
structure Keep2 (x y : Nat) (W W' : World) : Prop where
  os : W'.os = W.os
  tape : W'.tape = W.tape
  output : W'.output = W.output
  size : W.heap.size ≤ W'.heap.size
  block : ∀ i, i < W.heap.size → i ≠ x → i ≠ y → W'.heap[i]? = W.heap[i]?
theorem Keep2.refl (x y : Nat) (W : World) : Keep2 x y W W := ⟨rfl, rfl, rfl, Nat.le_refl _, fun _ _ _ _ => rfl⟩
theorem Keep2.trans {x y : Nat} {A B C : World} (h : Keep2 x y A B) (k : Keep2 x y B C) : Keep2 x y A C :=
  ⟨k.os.trans h.os, k.tape.trans h.tape, k.output.trans h.output, Nat.le_trans h.size k.size, fun i hi h1 h2 => (k.block i (Nat.lt_of_lt_of_le hi h.size) h1 h2).trans (h.block i hi h1 h2)⟩
theorem Keep2.of_grown {x y : Nat} {A B : World} (h : A.grownBy B (some x)) : Keep2 x y A B :=
  ⟨h.os, h.tape, h.output, h.size, fun i hi h1 _ => h.block i hi (by simpa using h1)⟩
theorem Keep2.of_grown' {x y : Nat} {A B : World} (h : A.grownBy B (some y)) : Keep2 x y A B :=
  ⟨h.os, h.tape, h.output, h.size, fun i hi _ h1 => h.block i hi (by simpa using h1)⟩
theorem Keep2.of_below {x y : Nat} {A B : World} (h : Below A.heap.size A B) : Keep2 x y A B :=
  ⟨h.os, h.tape, h.output, h.size, fun i hi _ _ => h.block i hi⟩
theorem Keep2.set {x y : Nat} (A : World) (o : Nat) (u : Value) : Keep2 x y A (A.setCell ⟨y, o, none⟩ u) := .of_grown' (grown_set _ _ _ _)
/-- What is new may be written. -/
theorem Keep2.fresh {x y g : Nat} {A B C : World} (h : Keep2 x y A B) (k : B.grownBy C (some g)) (hg : A.heap.size ≤ g) : Keep2 x y A C :=
  ⟨k.os.trans h.os, k.tape.trans h.tape, k.output.trans h.output, Nat.le_trans h.size k.size, fun i hi h1 h2 => (k.block i (Nat.lt_of_lt_of_le hi h.size) (by simp; omega)).trans (h.block i hi h1 h2)⟩
theorem Keep2.grown {x y : Nat} {A B : World} (h : Keep2 x y A B) (hy : A.heap.size ≤ y) : A.grownBy B (some x) :=
  ⟨h.os, h.tape, h.output, h.size, fun i hi h1 => h.block i hi (by simpa using h1) (by omega)⟩

/-- A reader, the last tick's box, and the box where the closure finds the reader. -/
structure RSt (W : World) (rb lb qb : Nat) (bs : List Int) (e : Int) (a : Nat) : Prop where
  rd : Rd W rb bs e
  last : Boxed W lb 61 (.int .u64 (a : Int))
  box : Boxed W qb 38 (.pointer (some ⟨rb, 0, none⟩))
  h1 : rb < lb
  h2 : rb < qb
  ok : Rc.okB bs
  le : a ≤ 9223372036854775808
theorem RSt.ne {W : World} {rb lb qb : Nat} {bs : List Int} {e : Int} {a : Nat} (h : RSt W rb lb qb bs e a) : lb ≠ qb := by
  intro e
  have h1 := h.last
  have h2 := h.box
  rw [e] at h1
  unfold Boxed at h1 h2
  rw [h1] at h2
  injection h2 with h2
  injection h2 with _ h2 _
  exact absurd h2 (by decide)

set_option maxHeartbeats 1000000 in
theorem tick_any {w : World} {rb lb qb : Nat} {bs : List Int} {e : Int} {a : Nat} (h : RSt w rb lb qb bs e a) :
    Calls Try.prog 77 #[.pointer (some ⟨lb, 0, none⟩), .pointer (some ⟨qb, 0, none⟩)] w fun r w' => r = .returned (.int .u64 (satT a (numR maxT bs e).2.2 : Nat)) ∧
      RSt w' rb lb qb (numR maxT bs e).1 (numR maxT bs e).2.1 (satT a (numR maxT bs e).2.2) ∧ Keep2 rb lb w w' := by
  have hR := h.rd
  have h1 := h.h1
  have h2 := h.h2
  have h3 := h.ne
  have hl := h.last
  have hq := h.box
  have hok := h.ok
  have ha := h.le
  have c0 := hl.cell
  have f0 := hl.frozen
  have l0 := hl.lt
  have c1 := hq.cell
  have l1 := hq.lt
  have hN := rnumF_at (w := w.drew) (show Rd w.drew rb bs e from hR) hok 9223372036854775807 9223372036854775807 rfl
  rw [show rNum bs e 9223372036854775807 = numR maxT bs e from rfl] at hN
  have hok' := Rc.okB_num hok maxT e
  have hn := Rc.num_le maxT bs e
  obtain ⟨n, hne⟩ : ∃ n, (numR maxT bs e).2.2 = n := ⟨_, rfl⟩
  obtain ⟨bs', hbe⟩ : ∃ b, (numR maxT bs e).1 = b := ⟨_, rfl⟩
  obtain ⟨e', hee⟩ : ∃ b, (numR maxT bs e).2.1 = b := ⟨_, rfl⟩
  rw [hne] at hN hn ⊢
  rw [hbe] at hN hok' ⊢
  rw [hee] at hN ⊢
  unfold maxT at hn
  have hnI : (n : Int) ≤ 9223372036854775807 := by omega
  have haI : (a : Int) ≤ 9223372036854775808 := by omega
  have HN := Lib.hid hN
  have HL := Lib.hid hl
  have HQ := Lib.hid hq
  have HOK := Lib.hid hok'
  have H1 := Lib.hid h1
  have H2 := Lib.hid h2
  have H3 := Lib.hid h3
  have key : ∀ (v : Nat) (w1 : World), v = satT a n → Rd w1 rb bs' e' → w.drew.grownBy w1 (some rb) → RSt (w1.setCell ⟨lb, 0, none⟩ (.int .u64 (v : Int))) rb lb qb bs' e' (satT a n) ∧ Keep2 rb lb w (w1.setCell ⟨lb, 0, none⟩ (.int .u64 (v : Int))) := by
    rintro v w1 rfl hr hg
    have hl1 : Boxed w1 lb 61 (.int .u64 (a : Int)) := (hg.block lb l0 (by simp; omega)).trans hl
    have hq1 : Boxed w1 qb 38 (.pointer (some ⟨rb, 0, none⟩)) := (hg.block qb l1 (by simp; omega)).trans hq
    refine ⟨⟨hr.keep fun b hb => Below.heap_setCell _ _ _ _ (show b ≠ lb by omega), hl1.set _, (Below.heap_setCell _ _ _ _ (show qb ≠ lb by omega)).trans hq1, h1, h2, hok', Nat.min_le_right _ _⟩, ?_⟩
    exact (Keep2.of_grown (A := w) ⟨hg.os, hg.tape, hg.output, hg.size, hg.block⟩).trans (Keep2.set _ _ _)
  have KEY := Lib.hid key
  have keep : ∀ w1 : World, w.drew.grownBy w1 (some rb) → w1.cell? ⟨lb, 0, none⟩ = some (.int .u64 (a : Int)) ∧ w1.frozen? ⟨lb, 0, none⟩ = false ∧ lb < w1.heap.size ∧ w1.cell? ⟨qb, 0, none⟩ = some (.pointer (some ⟨rb, 0, none⟩)) := by
    intro w1 hg
    have hl1 : Boxed w1 lb 61 (.int .u64 (a : Int)) := (hg.block lb l0 (by simp; omega)).trans hl
    have hq1 : Boxed w1 qb 38 (.pointer (some ⟨rb, 0, none⟩)) := (hg.block qb l1 (by simp; omega)).trans hq
    exact ⟨hl1.cell, hl1.frozen, hl1.lt, hq1.cell⟩
  have KEEP := Lib.hid keep
  clear h hR h1 h2 h3 hl hq hok ha hN hok' hn hne hbe hee key keep
  have hE : (if 9223372036854775808 < IntKind.u64.wrap ((a : Int) + n) then 9223372036854775808 else IntKind.u64.wrap ((a : Int) + n)) = ((satT a n : Nat) : Int) := by
    rw [show IntKind.u64.wrap ((a : Int) + n) = (a : Int) + n by rw [IntKind.wrap_u64]; omega]
    unfold satT
    split <;> omega
  obtain ⟨v, hv⟩ : ∃ v, satT a n = v := ⟨_, rfl⟩
  rw [hv] at hE ⊢
  have HE := Lib.hid hE
  have HV := Lib.hid hv
  clear hE hv
  go_enter Try.func77, Try.ntmps77
  go_upto_region 1 with (fail)
  go_region_law (go_simp; (with_reducible refine HN.out.mono ?_); rintro e w1 ⟨rfl, hr1, hg1⟩; obtain ⟨g0, g1, g2, g3⟩ := KEEP.out w1 hg1; have HR1 := Lib.hid hr1; have HG1 := Lib.hid hg1; clear hr1 hg1; dsimp only)
  all_goals
    rw [HE.out]
    have hfin := KEY.out v w1 HV.out.symm HR1.out HG1.out
    obtain ⟨W, hW⟩ : ∃ W, w1.setCell ⟨lb, 0, none⟩ (.int .u64 (v : Int)) = W := ⟨_, rfl⟩
    rw [hW] at hfin ⊢
    rw [HV.out] at hfin
    have m0 := hfin.1.last.cell
    have HF := Lib.hid hfin
    clear hfin hW g0 g1 g2 g3
    go_wp2
    go_ret
    exact ⟨rfl, HF.out.1, HF.out.2⟩
end Go.Proofs.Ytmdknedngiggdaa
end
section
/- The contracts of record.ticks and record.buckets. -/
namespace Go.Proofs.Rc
open Go.Proofs.Vm Go.Proofs.Lh
open Go.Proofs.Lm (Sp)
/-- A pair more. -/
theorem sat_step (a j : Nat) (b1 : List Int) (e1 : Int) (bj c1 c2 : List Int) (ej f1 f2 : Int) (pj : List (Nat × Nat)) (x y aj : Nat) (sj : List Sp) (hv : vecR pairR j b1 e1 = (bj, ej, pj)) (h1 : numR maxT bj ej = (c1, f1, x)) (h2 : numR maxT c1 f1 = (c2, f2, y)) (hs : satSp a pj = (sj, aj)) :
    (vecR pairR (j + 1) b1 e1).1 = c2 ∧ (vecR pairR (j + 1) b1 e1).2.1 = f2 ∧ satSp a (vecR pairR (j + 1) b1 e1).2.2 = (sj ++ [(satT aj x, satT (satT aj x) y)], satT (satT aj x) y) := by
  rw [vec_snoc, hv]
  have hp : pairR bj ej = (c2, f2, (x, y)) := by
    unfold pairR bindR
    rw [h1]
    dsimp only
    rw [h2]
  dsimp only
  rw [hp]
  dsimp only
  rw [satSp_snoc, hs]
  exact ⟨rfl, rfl, rfl⟩
end Go.Proofs.Rc
namespace Go.Proofs.Ytmdknedngiggdaa
open Go.RowKit Go.Shelf Go.Proofs.Vm Go.Proofs.Rw Go.Proofs.Lh
open Go.Proofs.Rc (numR pairR levelR vecR satT satSp maxT rowP)

theorem RSt.below {w w' : World} {rb lb qb : Nat} {bs : List Int} {e : Int} {a : Nat} (h : RSt w rb lb qb bs e a) (hb : Below w.heap.size w w') : RSt w' rb lb qb bs e a :=
  ⟨h.rd.below hb h.rd.lt, (hb.block _ h.last.lt).trans h.last, (hb.block _ h.box.lt).trans h.box, h.h1, h.h2, h.ok, h.le⟩
theorem RSt.off {w w' : World} {rb lb qb g : Nat} {bs : List Int} {e : Int} {a : Nat} (h : RSt w rb lb qb bs e a) (hg : w.grownBy w' (some g)) (h1 : rb < g) (h2 : g ≠ lb) (h3 : g ≠ qb) : RSt w' rb lb qb bs e a :=
  ⟨h.rd.grown hg h1, (hg.block _ h.last.lt (by simp; omega)).trans h.last, (hg.block _ h.box.lt (by simp; omega)).trans h.box, h.h1, h.h2, h.ok, h.le⟩
theorem RSt.num {w w' : World} {rb lb qb : Nat} {bs bs' : List Int} {e e' : Int} {a : Nat} (h : RSt w rb lb qb bs e a) (hr : Rd w' rb bs' e') (hg : w.grownBy w' (some rb)) (hok : Rc.okB bs') : RSt w' rb lb qb bs' e' a := by
  have h1 := h.h1
  have h2 := h.h2
  exact ⟨hr, (hg.block _ h.last.lt (by simp; omega)).trans h.last, (hg.block _ h.box.lt (by simp; omega)).trans h.box, h1, h2, hok, h.le⟩
abbrev tickV (lb qb : Nat) : Value := .func (.func 77) #[] #[.pointer (some ⟨lb, 0, none⟩), .pointer (some ⟨qb, 0, none⟩)]

theorem ticksR_any (rb : Nat) (w : World) : Calls Try.prog 55 #[.pointer (some ⟨rb, 0, none⟩)] w fun e w' => e = .returned (tickV (w.heap.size + 1) w.heap.size) ∧ w' = (w.alloc (.cells #[.pointer (some ⟨rb, 0, none⟩)] 38)).alloc (.cells #[.int .u64 0] 61) := by
  go_enter Try.func55, Try.ntmps55
  go_wp2
  go_ret
  exact ⟨by simp, rfl⟩

set_option maxRecDepth 100000 in
set_option maxHeartbeats 2000000 in
theorem bucketsR_any {w : World} {rb lb qb : Nat} {bs : List Int} {e : Int} {a : Nat} (h : RSt w rb lb qb bs e a) :
    Calls Try.prog 56 #[.pointer (some ⟨rb, 0, none⟩), tickV lb qb] w fun r w' => ∃ g n, r = .returned (.slice (some ⟨g, 0, none⟩) n n) ∧ n = (satSp a (levelR bs e).2.2).1.length ∧ w.heap.size ≤ g ∧ Own w' w.heap.size (.slice (some ⟨g, 0, none⟩) n n) (satSp a (levelR bs e).2.2).1 ∧
      RSt w' rb lb qb (levelR bs e).1 (levelR bs e).2.1 (satSp a (levelR bs e).2.2).2 ∧ Keep2 rb lb w w' := by
  obtain ⟨i0, hi, hz0, hz1, hz2⟩ := info_parts info_sp
  have hN := rnumF_at h.rd h.ok 1025 1025 rfl
  rw [show rNum bs e 1025 = numR 1025 bs e from rfl] at hN
  have hok' := Rc.okB_num h.ok 1025 e
  have hn := Rc.num_le 1025 bs e
  have hlev : levelR bs e = ((vecR pairR (numR 1025 bs e).2.2 (numR 1025 bs e).1 (numR 1025 bs e).2.1).1, (vecR pairR (numR 1025 bs e).2.2 (numR 1025 bs e).1 (numR 1025 bs e).2.1).2.1, (vecR pairR (numR 1025 bs e).2.2 (numR 1025 bs e).1 (numR 1025 bs e).2.1).2.2) := rfl
  obtain ⟨⟨b1, e1, n⟩, hq⟩ : ∃ q, numR 1025 bs e = q := ⟨_, rfl⟩
  rw [hq] at hN hok' hn hlev
  dsimp only at hN hok' hn hlev
  rw [hlev]
  dsimp only
  have hrb : rb < w.heap.size := h.rd.lt
  have hlb : lb < w.heap.size := h.last.lt
  have hqb : qb < w.heap.size := h.box.lt
  have hnI : (n : Int) ≤ 1025 := by omega
  have HN := Lib.hid hN
  have HH := Lib.hid h
  have HOK := Lib.hid hok'
  clear hN h hok' hlev hq
  go_enter Try.func56, Try.ntmps56
  go_upto_region 2 with (first
    | (go_at_call 54; (with_reducible refine HN.out.mono ?_); rintro e w1 ⟨rfl, hr1, hg1⟩; have HS1 := Lib.hid (HH.out.num hr1 hg1 HOK.out); have HG1 := Lib.hid hg1; clear hr1 hg1)
    | (at_make; refine wpList_make_full _ rfl _ _ 65 rfl w1.heap.size 73 i0 _ 2 Try.underlying65 hi hz0 hz1 .u64 .u64 _ _ n rfl rfl rfl rfl (by rw [hz2]; omega) (by unfold maxLen; omega) (Nat.le_refl _) ?_; intro wm hownm hgm))
  have hz1g := HG1.out.size
  obtain ⟨g, hg⟩ : ∃ g, w1.heap.size = g := ⟨_, rfl⟩
  rw [hg] at hownm hz1g ⊢
  have hown : Own wm w.heap.size (.slice (some ⟨g, 0, none⟩) n n) (rowP (0, 0) [] n) := by
    have e0 : Rc.rowP (0, 0) [] n = rowTo (fun _ => (0, 0)) n 0 := by
      rw [Rc.rowP_nil]
      unfold rowTo
      simp only [Nat.not_lt_zero, if_false]
      rw [List.map_const', List.length_range]
    rw [made_zero n (fun _ => (0, 0))] at hownm
    rw [e0]
    unfold Own
    rw [rowTo_len]
    exact own_lower hownm hz1g
  have hsm : RSt wm rb lb qb b1 e1 a := HS1.out.below ⟨hgm.os, hgm.tape, hgm.output, hgm.size, fun i hi => hgm.block i hi (by simp)⟩
  have hkm : Keep2 rb lb w wm := (Keep2.of_grown HG1.out).trans (Keep2.of_below ⟨hgm.os, hgm.tape, hgm.output, hgm.size, fun i hi => hgm.block i hi (by simp)⟩)
  have HO := Lib.hid hown
  have HSM := Lib.hid hsm
  have HKM := Lib.hid hkm
  have HGW := Lib.hid hz1g
  clear hownm hgm hown hsm hkm hg HG1 HS1 hz1 hz0 hz2 hi HN HH HOK
  go_wp2
  go_loopw [14] (fun s14 wr => ∃ j : Nat, s14 = .int .i64 (j : Int) ∧ j ≤ n ∧ Hid (RSt wr rb lb qb (vecR pairR j b1 e1).1 (vecR pairR j b1 e1).2.1 (satSp a (vecR pairR j b1 e1).2.2).2) ∧ Hid (Own wr w.heap.size (.slice (some ⟨g, 0, none⟩) n n) (rowP (0, 0) (satSp a (vecR pairR j b1 e1).2.2).1 n)) ∧ Hid (Keep2 rb lb w wr)) (fun s14 _ => n - (intOf s14).toNat)
  case atStart => exact ⟨0, rfl, Nat.zero_le _, HSM, HO, HKM⟩
  case round =>
    obtain ⟨j, rfl, hjn, HSr, HOr, HKr⟩ := hrel
    clear HSM HO HKM
    have hvl := Rc.vec_len pairR j b1 e1
    by_cases hlt : j < n
    · have hstep := fun bj c1 c2 ej f1 f2 pj x y aj sj => Rc.sat_step a j b1 e1 bj c1 c2 ej f1 f2 pj x y aj sj
      obtain ⟨⟨bj, ej, pj⟩, hvj⟩ : ∃ q, vecR pairR j b1 e1 = q := ⟨_, rfl⟩
      have hsl := Rc.satSp_len pj a
      obtain ⟨⟨sj, aj⟩, hsj⟩ : ∃ q, satSp a pj = q := ⟨_, rfl⟩
      have hpj : pj.length = j := by rw [hvj] at hvl; exact hvl
      rw [hsj] at hsl
      dsimp only at hsl
      rw [hvj] at HSr HOr
      dsimp only at HSr HOr
      rw [hsj] at HSr HOr
      dsimp only at HSr HOr
      have ht1 := tick_any HSr.out
      have hok1 := Rc.okB_num HSr.out.ok maxT ej
      obtain ⟨⟨c1, f1, x⟩, hn1⟩ : ∃ q, numR maxT bj ej = q := ⟨_, rfl⟩
      rw [hn1] at ht1 hok1
      dsimp only at ht1 hok1
      have ht2 := fun W (hW : RSt W rb lb qb c1 f1 (satT aj x)) => tick_any hW
      obtain ⟨⟨c2, f2, y⟩, hn2⟩ : ∃ q, numR maxT c1 f1 = q := ⟨_, rfl⟩
      rw [hn2] at ht2
      dsimp only at ht2
      obtain ⟨q1, q2, q3⟩ := hstep bj c1 c2 ej f1 f2 pj x y aj sj hvj hn1 hn2 hsj
      have hset := Rc.rowP_set ((0, 0) : Nat × Nat) (satT aj x, satT (satT aj x) y) sj n (by omega)
      have hrl := Rc.rowP_len ((0, 0) : Nat × Nat) sj n (by omega)
      rw [show sj.length = j by omega] at hset
      obtain ⟨T1, hT1⟩ : ∃ t, satT aj x = t := ⟨_, rfl⟩
      rw [hT1] at ht1 ht2 q3 hset
      obtain ⟨T2, hT2⟩ : ∃ t, satT T1 y = t := ⟨_, rfl⟩
      rw [hT2] at ht2 q3 hset
      have hgr : rb < g := by omega
      have hgl : g ≠ lb := by omega
      have hgq : g ≠ qb := by omega
      have HT1 := Lib.hid ht1
      have HT2 := Lib.hid ht2
      have HQ1 := Lib.hid q1
      have HQ2 := Lib.hid q2
      have HQ3 := Lib.hid q3
      have HSET := Lib.hid hset
      have HRL := Lib.hid hrl
      have HGR := Lib.hid hgr
      have HGL := Lib.hid hgl
      have HGQ := Lib.hid hgq
      clear hstep hvl hvj hpj hsl hsj hn1 hn2 ht1 ht2 q1 q2 q3 hset hrl hT1 hT2 hgr hgl hgq hok1
      go_upto_region 6 with (go_at_call 77; (with_reducible refine HT1.out.mono ?_); rintro e w2 ⟨rfl, hs2, hk2⟩; have HS2 := Lib.hid hs2; have HK2 := Lib.hid hk2; clear hs2 hk2)
      go_upto_region 7 with (go_at_call 77; (with_reducible refine (HT2.out _ HS2.out).mono ?_); rintro e w3 ⟨rfl, hs3, hk3⟩; have HS3 := Lib.hid hs3; have HK3 := Lib.hid (HK2.out.trans hk3); clear hs3 hk3)
      have hgl2 : g < wr.heap.size := (HOr.out.lt g rfl).2
      have ho3 : Own w3 w.heap.size (.slice (some ⟨g, 0, none⟩) n n) (rowP (0, 0) sj n) := own_keep HOr.out fun b hb => by
        injection hb with hb
        have hb : g = b := hb
        subst hb
        exact HK3.out.block g hgl2 (by have := HGR.out; omega) HGL.out
      obtain ⟨⟨u0, d0⟩, ⟨u1, d1⟩, z0, z1⟩ := own_cells ho3 HRL.out j hlt
      have hgl3 : g < w3.heap.size := Nat.lt_of_lt_of_le hgl2 HK3.out.size
      obtain ⟨ho4, hg4⟩ := own_set ho3 HRL.out j T1 T2
      rw [HSET.out] at ho4
      have HO4 := Lib.hid ho4
      have HG4 := Lib.hid hg4
      have HKW := Lib.hid (HKr.out.trans HK3.out)
      clear ho3 ho4 hg4 hgl2
      go_wp2
      refine ⟨⟨j + 1, by go_num, hlt, Lib.hid ?_, Lib.hid ?_, Lib.hid ?_⟩, by simp [intOf]; omega⟩
      · rw [HQ1.out, HQ2.out, HQ3.out]
        exact HS3.out.off HG4.out HGR.out HGL.out HGQ.out
      · rw [HQ3.out]
        exact HO4.out
      · exact HKW.out.fresh HG4.out HGW.out
    · have e : j = n := by omega
      subst e
      have hsl := Rc.satSp_len (vecR pairR j b1 e1).2.2 a
      rw [hvl] at hsl
      have HSL := Lib.hid hsl
      clear hlt hvl hsl
      go_wp2
      go_ret
      have ho := HOr.out
      rw [show rowP (0, 0) (satSp a (vecR pairR j b1 e1).2.2).1 j = (satSp a (vecR pairR j b1 e1).2.2).1 by
        have := Rc.rowP_all ((0, 0) : Nat × Nat) (satSp a (vecR pairR j b1 e1).2.2).1
        rwa [HSL.out] at this] at ho
      exact ⟨g, j, rfl, HSL.out.symm, HGW.out, ho, HSr.out, HKr.out⟩
end Go.Proofs.Ytmdknedngiggdaa
end
section
/- The contract of record.read. -/
namespace Go.Proofs.Rc
theorem rep_set {α : Type} (z y : α) (D : List α) (k : Nat) : (List.replicate (k + 1) z ++ D).set k y = List.replicate k z ++ (y :: D) := by
  rw [List.replicate_succ', List.append_assoc, List.set_append_right _ _ (by simp)]
  simp
end Go.Proofs.Rc
namespace Go.Proofs.Ytmdknedngiggdaa
open Go.RowKit Go.Shelf Go.Proofs.Vm Go.Proofs.Rw Go.Proofs.Lh
open Go.Proofs.Rc (numR pairR levelR vecR rawR satT satSp satLv satM maxT rowP)

theorem info_rowS : (Try.prog.info? 65).map (fun i => (i.zero, i.size, i.bytes)) = some (some (.slice none 0 0), 1, 24) := by kernel_rfl

theorem own_tyR {w : World} {base n size : Nat} {v : Value} {xs : List Value} {e : TypeId} (h : w.ownsRow base e size v n xs) {b : Nat} (hb : v.ownBlock = some b) : Ty w e b := by
  rcases h.2 with ⟨rfl, _⟩ | ⟨g, cap, cur, rfl, _, hg, _⟩
  · cases hb
  · injection hb with hb
    have : g = b := hb
    subst this
    exact ⟨cur, _, hg⟩
theorem lies_same {α : Type} {L : Lay α} {w w' : World} {v : Value} {xs : List α} (h : Lies L w w.heap.size v xs) (hs : w.heap.size ≤ w'.heap.size) (hb : xs ≠ [] → ∀ b, v.ownBlock = some b → w'.heap[b]? = w.heap[b]?) : Lies L w' w'.heap.size v xs := by
  obtain ⟨A, cap, rfl, h1, h2, h3⟩ := h
  refine ⟨A, cap, rfl, h1, h2, ?_⟩
  by_cases hx : xs = []
  · exact .inl hx
  · rcases h3 with h3 | ⟨b, off, hlt, rfl, hc⟩
    · exact absurd h3 hx
    · exact .inr ⟨b, off, by omega, rfl, fun j u hu => (World.cell?_of_block (a := ⟨b, off + j, none⟩) (hb hx b rfl)).trans (hc j u hu)⟩
/-- Levels of the call's own stay where no block of their types is written. -/
theorem OwnLevs.keepTy {T : TypeId} {Z : Nat → Prop} {w w' : World} {base : Nat} {v : Value} {ls : List (List Sp)} (h : OwnLevs T Z w base v ls) (hs : w.heap.size ≤ w'.heap.size) (hk : ∀ b, (Ty w T b ∨ Ty w 73 b) → w'.heap[b]? = w.heap[b]?) : OwnLevs T Z w' base v ls := by
  obtain ⟨vs, h1, h2, h3⟩ := h
  refine ⟨vs, own_keep h1 fun b hb => hk b (.inl (own_tyR h1 hb)), h2, fun i u l hu hl => ?_⟩
  obtain ⟨a1, a2⟩ := h3 i u l hu hl
  refine ⟨lies_same a1 hs fun hn b hb => hk b (.inr (a2 hn b hb).2.2), fun hn b hb => ?_⟩
  obtain ⟨c1, c2, c3⟩ := a2 hn b hb
  exact ⟨c1, c2, c3.keep (hk b (.inr c3))⟩
theorem OwnLevs.cellR {T : TypeId} {Z : Nat → Prop} {w : World} {base g N m : Nat} {ls : List (List Sp)} (h : OwnLevs T Z w base (.slice (some ⟨g, 0, none⟩) N N) ls) (hm : m < N) : (∃ u, w.cell? ⟨g, m, none⟩ = some u) ∧ w.frozen? ⟨g, m, none⟩ = false := by
  obtain ⟨vs, o1, -, -⟩ := h
  have vl : N = vs.length := own_len o1
  rw [← vl] at o1
  have hc4 := o1.cellAt m (by omega)
  rw [List.getElem?_eq_getElem (show m < vs.length by omega)] at hc4
  exact ⟨⟨_, hc4⟩, o1.frozenAt m⟩
theorem OwnLevs.zeros {w : World} {base g N : Nat} (h : w.ownsRow base 65 1 (.slice (some ⟨g, 0, none⟩) N N) N (madeCells (Value.slice none 0 0).cells (N * 1)).toList) : OwnLevs 65 (fun _ => True) w base (.slice (some ⟨g, 0, none⟩) N N) (List.replicate N []) := by
  have e : (madeCells (Value.slice none 0 0).cells (N * 1)).toList = List.replicate N (.slice none 0 0) := by
    rw [show (Value.slice none 0 0).cells = #[.slice none 0 0] from rfl, toList_madeCells_one, Nat.mul_one]
  rw [e] at h
  refine ⟨List.replicate N (.slice none 0 0), by rw [List.length_replicate]; exact h, by simp, fun i u l hu hl => ?_⟩
  rw [List.getElem?_replicate] at hu hl
  by_cases hiN : i < N
  · rw [if_pos hiN] at hu hl
    injection hu with hu
    injection hl with hl
    subst hu hl
    exact ⟨Lies.nil none 0 (by simp), fun h => absurd rfl h⟩
  · rw [if_neg hiN] at hu
    cases hu
end Go.Proofs.Ytmdknedngiggdaa
end
section
/- The document's own answers: skylightref01.Put, end, Take. -/
namespace Go.Proofs.Ytmdknedngiggdaa
open Go.RowKit Go.Proofs.Vm

set_option maxRecDepth 100000 in
set_option maxHeartbeats 1000000 in
theorem refPut_any : ∀ (x : Nat), x < 18446744073709551616 → ∀ w : World,
    Calls Try.prog 53 #[.int .u64 x] w fun e w' => ∃ v, e = .returned v ∧ w'.ownsRow w.heap.size 5 1 v (vput x).length ((vput x).map (Value.int .u8)) ∧ Below w.heap.size w w' := by
  intro x
  induction x using Nat.strongRecOn with
  | _ x ih =>
    intro hx w
    by_cases hlt : x < 128
    · have HV := Lib.hid (vput_lt hlt)
      clear ih hx
      go_enter Try.func53, Try.ntmps53
      go_wp2
      go_ret
      refine ⟨_, rfl, ?_, (Below.refl _ w).alloc (Nat.le_refl _) _⟩
      rw [HV.out]
      exact World.ownsRow_lit w #[.int .u8 x] 1 (Nat.le_refl _) (by decide) rfl
    · have HV := Lib.hid (vput_ge hlt)
      have hc0 := ih (x / 128) (by omega) (by omega)
      rw [show ((x / 128 : Nat) : Int) = (x : Int) / 128 from Int.natCast_ediv x 128] at hc0
      have hc := Lib.hid hc0
      clear hc0
      have hl : (vput (x / 128)).length ≤ 10 := vput_len10 _ (by omega)
      clear ih
      have b1 : (x : Int) ≤ 18446744073709551615 := by omega
      clear hx
      go_enter Try.func53, Try.ntmps53
      go_wp2_with (first
        | (go_at_call 53; with_reducible refine (hc.out _).mono ?_; clear hc; rintro e w1 ⟨v1, rfl, hown1, hb1⟩; have H1 := Lib.hid hown1; have HB1 := Lib.hid hb1; clear hown1 hb1)
        | (at_builtin; refine wpList_app _ rfl (.tmp 14) (.tmp 17) rfl w.heap.size _ _ [128 + (x : Int) % 128] (vput (x / 128)) _ rfl (ownsRow_below (World.ownsRow_lit w #[.int .u8 (128 + (x : Int) % 128)] 1 (Nat.le_refl _) (by decide) rfl) HB1.out) rfl (Holds.of_own H1.out) (by simp; omega) (Nat.le_trans (by simp) HB1.out.size) ?_; intro v2 w2 hown2 hg2; have H2 := Lib.hid hown2; have HG2 := Lib.hid ((((Below.refl w.heap.size w).alloc (Nat.le_refl _) _).trans (HB1.out.mono (by simp))).grown hg2 (Nat.le_trans (by simp) HB1.out.size) (fun j ej => by cases ej; exact Nat.le_refl _)); clear hown2 hg2))
      go_ret
      refine ⟨_, rfl, ?_, HG2.out⟩
      rw [HV.out]
      have e : ((x % 128 + 128 : Nat) : Int) = 128 + (x : Int) % 128 := by omega
      rw [e]
      exact H2.out

/-- skylightref01.Put: a slice that holds the number's bytes, in new memory. -/
theorem refPut_holds (x : Nat) (hx : x < 18446744073709551616) (w : World) :
    Calls Try.prog 53 #[.int .u64 x] w fun e w' => ∃ v, e = .returned v ∧ Holds w' w'.heap.size v (vput x) ∧ Below w.heap.size w w' :=
  (refPut_any x hx w).mono fun _ _ ⟨v, he, ho, hb⟩ => ⟨v, he, Holds.of_own ho, hb⟩

/-- The place, or -1. -/
def endInt (bs : List Int) : Int := match vend bs with | some i => (i : Int) | none => -1

set_option maxRecDepth 100000 in
set_option maxHeartbeats 1000000 in
theorem end_some (b off : Nat) (bs : List Int) (hbs : ∀ x ∈ bs, 0 ≤ x ∧ x ≤ 255) (cap : Nat) (w : World) (hlen : bs.length ≤ maxLen) (hc : ∀ j, j < bs.length → w.cell? ⟨b, off + j, none⟩ = some (.int .u8 (bs.getD j 0))) :
    Calls Try.prog 78 #[.slice (some ⟨b, off, none⟩) bs.length cap] w fun e w' => e = .returned (.int .i64 (endInt bs)) ∧ w = w' := by
  unfold maxLen at hlen
  have HC := Lib.hid hc
  have HBD := Lib.hid hbs
  clear hc hbs
  go_enter Try.func78, Try.ntmps78
  go_wp2
  go_loop [3] (fun i => ∃ k : Nat, k ≤ bs.length ∧ k ≤ 10 ∧ i = .int .i64 k ∧ Hid (∀ j, j < k → 128 ≤ bs.getD j 0)) (fun i => 10 - (intOf i).toNat)
  case atStart => exact ⟨0, by omega, by omega, rfl, fun j h => absurd h (by omega)⟩
  case round =>
    obtain ⟨k, hk, hk10, rfl, Hj⟩ := hrel
    by_cases hl1 : k < bs.length
    · have hl1' : decide ((k : Int) < (bs.length : Int)) = true := by simp; omega
      by_cases hl2 : k < 10
      · have hcell : w.cell? ⟨b, off + k, none⟩ = some (.int .u8 (bs.getD k 0)) := HC.out k hl1
        obtain ⟨d, hd⟩ : ∃ d, bs.getD k 0 = d := ⟨_, rfl⟩
        rw [hd] at hcell
        have HD := Lib.hid hd
        clear hd
        by_cases hge : 128 ≤ d
        · go_wp2
          go_round
          case rel =>
            refine ⟨k + 1, by omega, by omega, by go_num, fun j h => ?_⟩
            rcases Nat.lt_or_ge j k with h' | h'
            · exact Hj.out j h'
            · obtain rfl : j = k := by omega
              rw [HD.out]; exact hge
          case measure => simp [intOf]; omega
        · go_wp2
          go_ret
          refine ⟨?_, rfl⟩
          have : vend bs = some k := vend_some Hj.out hl1 hl2 (by rw [HD.out]; omega)
          unfold endInt
          rw [this]
          rfl
      · go_wp2
        go_ret
        refine ⟨?_, rfl⟩
        have : vend bs = none := vend_none Hj.out (by omega)
        unfold endInt
        rw [this]
        rfl
    · have hl1' : decide ((k : Int) < (bs.length : Int)) = false := by simp; omega
      go_wp2
      go_ret
      refine ⟨?_, rfl⟩
      have : vend bs = none := vend_none Hj.out (by omega)
      unfold endInt
      rw [this]
      rfl

theorem end_nil (A : Option Addr) (cap : Nat) (w : World) : Calls Try.prog 78 #[.slice A 0 cap] w fun e w' => e = .returned (.int .i64 (-1)) ∧ w = w' := by
  go_enter Try.func78, Try.ntmps78
  go_wp2
  go_loop [3] (fun i => i = .int .i64 0) (fun i => 10 - (intOf i).toNat)
  case atStart => rfl
  case round =>
    subst hrel
    go_wp2
    go_ret
    exact ⟨rfl, rfl⟩

theorem refTake_nil (A : Option Addr) (cap : Nat) (w : World) : Calls Try.prog 57 #[.slice A 0 cap] w fun e w' => e = tk (vtake []) ∧ w = w' := by
  go_enter Try.func57, Try.ntmps57
  go_wp2_with (go_at_call 78; with_reducible refine (end_nil _ _ _).mono ?_; rintro e w' ⟨rfl, rfl⟩)
  go_ret3
  exact ⟨rfl, rfl⟩

theorem vtake_none {bs : List Int} (h : vend bs = none) : vtake bs = if bs.length < 10 then (0, 0, 3) else (0, 0, 2) := by unfold vtake; rw [h]
theorem vtake_some {bs : List Int} {i : Nat} (h : vend bs = some i) : vtake bs = if mayB (bs.getD i 0) i then (vsum bs (i + 1), i + 1, 0) else (0, 0, 2) := by unfold vtake; rw [h]
theorem vend_spec {bs : List Int} {i : Nat} (h : vend bs = some i) : i < bs.length ∧ i < 10 ∧ bs.getD i 0 < 128 := by
  unfold vend at h
  rw [List.find?_range_eq_some] at h
  obtain ⟨h1, h2, _⟩ := h
  simp only [decide_eq_true_eq] at h1
  simp only [List.mem_range] at h2
  exact ⟨by omega, by omega, h1⟩

set_option maxRecDepth 100000 in
set_option maxHeartbeats 2000000 in
theorem refTake_some (b off : Nat) (bs : List Int) (hbs : ∀ x ∈ bs, 0 ≤ x ∧ x ≤ 255) (cap : Nat) (w : World) (hlen : bs.length ≤ maxLen) (hc : ∀ j, j < bs.length → w.cell? ⟨b, off + j, none⟩ = some (.int .u8 (bs.getD j 0))) :
    Calls Try.prog 57 #[.slice (some ⟨b, off, none⟩) bs.length cap] w fun e w' => e = tk (vtake bs) ∧ w = w' := by
  have HE := Lib.hid (end_some b off bs hbs cap w hlen hc)
  unfold maxLen at hlen
  have HC := Lib.hid hc
  have HBD := Lib.hid hbs
  clear hc hbs
  cases hv : vend bs with
  | none =>
    have he : endInt bs = -1 := by unfold endInt; rw [hv]
    rw [he] at HE
    have HV := Lib.hid (vtake_none hv)
    clear hv he
    by_cases h10 : bs.length < 10
    · have h10' : decide (10 ≤ (bs.length : Int)) = false := by simp; omega
      go_enter Try.func57, Try.ntmps57
      go_wp2_with (go_at_call 78; with_reducible refine HE.out.mono ?_; rintro e w' ⟨rfl, rfl⟩)
      go_ret3
      refine ⟨?_, rfl⟩
      rw [HV.out, if_pos h10]
      rfl
    · have h10' : decide (10 ≤ (bs.length : Int)) = true := by simp; omega
      go_enter Try.func57, Try.ntmps57
      go_wp2_with (go_at_call 78; with_reducible refine HE.out.mono ?_; rintro e w' ⟨rfl, rfl⟩)
      go_ret3
      refine ⟨?_, rfl⟩
      rw [HV.out, if_neg h10]
      rfl
  | some i =>
    have he : endInt bs = i := by unfold endInt; rw [hv]
    rw [he] at HE
    obtain ⟨hi1, hi2, hi3⟩ := vend_spec hv
    have HV := Lib.hid (vtake_some hv)
    clear hv he
    have hcell : w.cell? ⟨b, off + i, none⟩ = some (.int .u8 (bs.getD i 0)) := HC.out i hi1
    have hb := HBD.out (bs.getD i 0) (by rw [List.getD_eq_getElem?_getD, List.getElem?_eq_getElem hi1]; exact List.getElem_mem hi1)
    have HOK := Lib.hid (fun hm => vacc_ok bs i hi2 hb.1 hi3 hm)
    obtain ⟨d, hd⟩ : ∃ d, bs.getD i 0 = d := ⟨_, rfl⟩
    rw [hd] at hcell hb hi3 HV HOK
    have HD := Lib.hid hd
    clear hd
    by_cases hm : mayB d i = true
    · have hV : vsum bs (i + 1) < 18446744073709551616 := by
        rw [← HOK.out hm]; exact Nat.mod_lt _ (by omega)
      rw [hm, if_pos rfl] at HV
      have HST := Lib.hid (fun (j : Nat) (h : j ≤ i) => vsum_step bs h)
      have HTOP := Lib.hid (vsum_top bs i)
      clear HOK
      obtain ⟨V, hVe⟩ : ∃ V, vsum bs (i + 1) = V := ⟨_, rfl⟩
      rw [hVe] at hV HV HST HTOP
      clear hVe
      have b1 : (V : Int) ≤ 18446744073709551615 := by omega
      clear hV
      have hcase : ((d == 0) = true ∧ i ≤ 0) ∨ ((d == 0) = false ∧ ((i : Int) == 9) = true ∧ d ≤ 1) ∨ ((d == 0) = false ∧ ((i : Int) == 9) = false) := by
        unfold mayB at hm
        by_cases h0 : d = 0
        · simp [h0] at hm; exact .inl ⟨by simp [h0], by omega⟩
        · rw [if_neg h0] at hm
          simp only [Bool.or_eq_true, decide_eq_true_eq] at hm
          by_cases h9 : i = 9
          · exact .inr (.inl ⟨by simpa using h0, by simp [h9], by omega⟩)
          · exact .inr (.inr ⟨by simpa using h0, by simp; omega⟩)
      clear hm
      rcases hcase with ⟨c1, c2⟩ | ⟨c1, c2, c3⟩ | ⟨c1, c2⟩
      case' inl => have c3 : decide ((0 : Int) < (i : Int)) = false := by simp; omega
      case' inl => have c4 : ((i : Int) == 9) = false := by simp; omega
      case' inr.inl => have c4 : decide (1 < d) = false := by simp; omega
      all_goals
        go_enter Try.func57, Try.ntmps57
        go_wp2_with (go_at_call 78; with_reducible refine HE.out.mono ?_; rintro e w' ⟨rfl, rfl⟩)
        go_loop [6, 7] (fun n k => ∃ K : Nat, K ≤ i + 1 ∧ k = .int .i64 ((K : Int) - 1) ∧ n = .int .u64 ((V / 128 ^ K : Nat) : Int)) (fun _ k => (intOf k + 1).toNat)
        case atStart => exact ⟨i + 1, by omega, by go_num, by rw [HTOP.out]; rfl⟩
        case round =>
          obtain ⟨K, hK, rfl, rfl⟩ := hrel
          cases K with
          | zero =>
            go_wp2
            go_ret3
            refine ⟨?_, rfl⟩
            rw [HV.out]
            exact tk_mk (by simp) (by simp) rfl
          | succ j =>
            have hj : j ≤ i := by omega
            have hcj : w.cell? ⟨b, off + j, none⟩ = some (.int .u8 (bs.getD j 0)) := HC.out j (by omega)
            have hst := HST.out j hj
            have hbj := HBD.out (bs.getD j 0) (by rw [List.getD_eq_getElem?_getD, List.getElem?_eq_getElem (by omega)]; exact List.getElem_mem _)
            have hle : V / 128 ^ j ≤ V := Nat.div_le_self _ _
            obtain ⟨x, hx⟩ : ∃ x, bs.getD j 0 = x := ⟨_, rfl⟩
            rw [hx] at hcj hst hbj
            obtain ⟨N, hN⟩ : ∃ N, V / 128 ^ (j + 1) = N := ⟨_, rfl⟩
            rw [hN] at hst ⊢
            obtain ⟨M, hM⟩ : ∃ M, V / 128 ^ j = M := ⟨_, rfl⟩
            rw [hM] at hst hle
            have hM2 := Lib.hid hM
            clear hx hN hM
            have b2 : 128 * (N : Int) + x % 128 ≤ 18446744073709551615 := by omega
            have HS := Lib.hid hst
            clear hst
            have e1 : ((j + 1 : Nat) : Int) - 1 = (j : Int) := by omega
            rw [e1]
            clear e1
            go_wp2
            go_round
            case rel => exact ⟨j, by omega, by go_num, by rw [hM2.out, ← HS.out]; go_num⟩
            case measure => simp [intOf]
    · have hm' : mayB d i = false := by simpa using hm
      rw [hm', if_neg (by simp)] at HV
      clear HOK
      have hcase : ((d == 0) = true ∧ 0 < i) ∨ ((d == 0) = false ∧ ((i : Int) == 9) = true ∧ 1 < d) := by
        unfold mayB at hm'
        by_cases h0 : d = 0
        · simp [h0] at hm'; exact .inl ⟨by simp [h0], by omega⟩
        · rw [if_neg h0] at hm'
          simp only [Bool.or_eq_false_iff, decide_eq_false_iff_not] at hm'
          exact .inr ⟨by simpa using h0, by simp; omega, by omega⟩
      clear hm hm'
      rcases hcase with ⟨c1, c2⟩ | ⟨c1, c2, c3⟩
      case' inl => have c3 : decide ((0 : Int) < (i : Int)) = true := by simp; omega
      case' inr => have c4 : decide (1 < d) = true := by simp; omega
      all_goals
        go_enter Try.func57, Try.ntmps57
        go_wp2_with (go_at_call 78; with_reducible refine HE.out.mono ?_; rintro e w' ⟨rfl, rfl⟩)
        go_ret3
        refine ⟨?_, rfl⟩
        rw [HV.out]
        rfl

/-- skylightref01.Take of bytes, wherever they lie. -/
theorem refTake_any {w : World} {B : Nat} {v : Value} {bs : List Int} (h : Holds w B v bs) (hb : ∀ x ∈ bs, 0 ≤ x ∧ x ≤ 255) : Calls Try.prog 57 #[v] w fun e w' => e = tk (vtake bs) ∧ w = w' := by
  obtain ⟨A, cap, rfl, h1, h2, h3⟩ := h
  rcases h3 with rfl | ⟨b, off, _, rfl, hc⟩
  · exact refTake_nil A cap w
  · exact refTake_some b off bs hb cap w (by omega) hc

end Go.Proofs.Ytmdknedngiggdaa
end
