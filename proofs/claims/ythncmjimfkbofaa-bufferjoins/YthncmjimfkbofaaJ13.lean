/- The contract of buffer.Push. · A region that draws its order, whose operations only read, and whose callees read, and may make memory: walked once, in the order of the text, by contracts that say 'Below'. · A row of events of the call's own whose elements are exchanged; what is compared. · The contracts of slices.swapRangeCmpFunc and of slices.rotateCmpFunc, on events. -/
import Derived.Test.YthncmjimfkbofaaJ12
import Derived.Deep.QuietTactic
import Derived.BigQuiet
import Derived.Below
import Derived.Test.YthncmjimfkbofaaJ02
import Derived.Test.YthncmjimfkbofaaJ10
import Derived.BigRegion
section
/- The contract of buffer.Push. -/
namespace Go.Proofs.Ythncmjimfkbofaa
set_option linter.unusedVariables false
open Go.RowKit Go.Shelf Go.Proofs.Rw Go.Proofs.Lh Go.Proofs.Bu

theorem heap3v (w : World) (o0 o1 o2 : Obj) : ∃ W, W = ((w.alloc o0).alloc o1).alloc o2 ∧ W.heap.size = w.heap.size + 3 ∧ W.heap[w.heap.size]? = some o0 ∧ W.heap[w.heap.size + 1]? = some o1 ∧ W.heap[w.heap.size + 1 + 1]? = some o2 ∧ Below w.heap.size w W := by
  obtain ⟨W, h1, h2, h3, h4, h5⟩ := heap_two w o0 o1
  refine ⟨W.alloc o2, by rw [h1], by simp [h2], ?_, ?_, ?_, h5.alloc h5.size _⟩
  · rw [Below.heap_alloc _ _ _ (lt_of h3)]; exact h3
  · rw [Below.heap_alloc _ _ _ (lt_of h4)]; exact h4
  · have := World.alloc_heap_new W o2
    rw [h2] at this
    exact this
/-- An event as a value. -/
abbrev evV (e : Ev) : Value := .agg #[.int .u64 (e.1 : Int), .int .u64 (e.2.1 : Int), .int .u64 (e.2.2 : Int)]

/-- Why an event is refused; 0: it isn't. -/
def pushC (b : Bf) (e : Ev) : Int := if e.2.2 = 0 then 1 else if 9223372036854775807 < e.1 then 6 else if e.1 < b.front then 4 else 0

set_option maxRecDepth 100000 in
set_option maxHeartbeats 4000000 in
theorem bpush_bad (b : Bf) (e : Ev) (C : Int) (hC : pushC b e = C) (h0 : C ≠ 0) (w : World) (A : Option Addr) (c : Nat) :
    Calls Try.prog 28 #[bufV b A c, evV e] w fun r w' => r = .returned (badV C) ∧ Below w.heap.size w w' := by
  obtain ⟨late, room, mark, front, evs⟩ := b
  obtain ⟨t, k, n⟩ := e
  unfold bufV bval
  unfold pushC at hC
  dsimp only at hC ⊢
  obtain ⟨N, hN⟩ : ∃ N, evs.length = N := ⟨_, rfl⟩
  rw [hN]
  obtain ⟨W0, hW0, hsz, p0, p1, p2, b0⟩ := heap3v w (.cells #[.int .u64 (late : Int), .int .i64 (room : Int), .int .u64 (mark : Int), .int .u64 (front : Int), .slice A N c] 33) (.cells #[.int .u64 (t : Int), .int .u64 (k : Int), .int .u64 (n : Int)] 41) (.cells #[.int .u64 0, .int .i64 0, .int .u64 0, .int .u64 0, .slice none 0 0] 33)
  obtain ⟨⟨x0, x1, x2, x3, x4⟩, f1⟩ := box5 p2
  obtain ⟨⟨z0, z1, z2, z3, z4⟩, -⟩ := box5 p0
  obtain ⟨r0, r1, r2⟩ := box3 p1
  have l0 := lt_of p0
  have l1 := lt_of p1
  have l2 := lt_of p2
  obtain ⟨W5, hW5, q5, g5⟩ := fin5 p2 (.int .u64 0) (.int .i64 0) (.int .u64 0) (.int .u64 0) (.slice none 0 0)
  obtain ⟨⟨y0, y1, y2, y3, y4⟩, -⟩ := box5 q5
  have B5 := Lib.hid (below_row b0 g5 (by omega))
  have HW0 := Lib.hid hW0
  have HW5 := Lib.hid hW5
  have Y := Lib.hid (And.intro y0 (And.intro y1 (And.intro y2 (And.intro y3 y4))))
  clear hW0 hW5 p0 p1 p2 q5 g5 b0 hsz y0 y1 y2 y3 y4 hN
  by_cases hn : n = 0
  · rw [if_pos hn] at hC
    subst hC
    clear h0
    have hnz : ((n : Int) == 0) = true := by rw [hn]; rfl
    clear hn
    go_enter Try.func28, Try.ntmps28
    go_upto_region 1 with (fail)
    rw [← HW0.out]
    go_wp2
    rw [HW5.out]
    obtain ⟨y0, y1, y2, y3, y4⟩ := Y.out
    refine bodyPost_ret (v := badV 1) (by simp [results, Try.results28, go_sem, y0, y1, y2, y3, y4]) rfl ⟨rfl, B5.out⟩
  rw [if_neg hn] at hC
  have hnz : ((n : Int) == 0) = false := by rw [beq_eq_false_iff_ne]; omega
  by_cases ht : 9223372036854775807 < t
  · rw [if_pos ht] at hC
    subst hC
    clear h0
    go_enter Try.func28, Try.ntmps28
    go_upto_region 1 with (fail)
    rw [← HW0.out]
    go_wp2
    rw [HW5.out]
    obtain ⟨y0, y1, y2, y3, y4⟩ := Y.out
    refine bodyPost_ret (v := badV 6) (by simp [results, Try.results28, go_sem, y0, y1, y2, y3, y4]) rfl ⟨rfl, B5.out⟩
  rw [if_neg ht] at hC
  by_cases hf : t < front
  · rw [if_pos hf] at hC
    subst hC
    clear h0
    go_enter Try.func28, Try.ntmps28
    go_upto_region 1 with (fail)
    rw [← HW0.out]
    go_wp2
    rw [HW5.out]
    obtain ⟨y0, y1, y2, y3, y4⟩ := Y.out
    refine bodyPost_ret (v := badV 4) (by simp [results, Try.results28, go_sem, y0, y1, y2, y3, y4]) rfl ⟨rfl, B5.out⟩
  · rw [if_neg hf] at hC
    exact absurd hC.symm h0

set_option maxRecDepth 100000 in
set_option maxHeartbeats 4000000 in
theorem bpush_any (b : Bf) (hb : Okb b) (hlen : b.evs.length < 100000) (e : Ev) (hC : pushC b e = 0) (w : World) (A : Option Addr) (c : Nat) (hev : Evs w A c b.evs) :
    Calls Try.prog 28 #[bufV b A c, evV e] w fun r w' => Told w w' A r (pushB b e) := by
  have hpb : pushB b e = moveB { b with evs := insL e b.evs } e.1 := rfl
  rw [hpb]
  have hmax : e.1 ≤ 9223372036854775807 ∧ e.2.2 ≠ 0 ∧ ¬ e.1 < b.front := by
    unfold pushC at hC
    split at hC
    · cases hC
    split at hC
    · cases hC
    split at hC
    · cases hC
    · omega
  obtain ⟨ht, hn, hf⟩ := hmax
  have ok : Okb { b with evs := insL e b.evs } := ⟨hb.late, hb.room, hb.mark, hb.front, by dsimp only; rw [ins_len]; omega, hb.sd.ins e⟩
  have k1 := fun W (hW : Below w.heap.size w W) => put_any b.evs hb.sd (by have := hb.len; omega) e W A c (hev.grow hW).lies hev.fine
  have k2 := fun W A' c' h' => bmove_any { b with evs := insL e b.evs } ok e.1 ht W A' c' h'
  obtain ⟨M, hM⟩ : ∃ M, moveB { b with evs := insL e b.evs } e.1 = M := ⟨_, rfl⟩
  rw [hM] at k2 ⊢
  obtain ⟨R, hR⟩ : ∃ R, insL e b.evs = R := ⟨_, rfl⟩
  rw [hR] at k1 k2
  obtain ⟨late, room, mark, front, evs⟩ := b
  obtain ⟨t, k, n⟩ := e
  obtain ⟨⟨ml, mr, mm, mf, ms⟩, mo⟩ := M
  unfold bufV bval at k2 ⊢
  dsimp only at k1 k2 ht hn hf hev ⊢
  clear hM hR ok hb hlen hC hpb
  obtain ⟨N, hN⟩ : ∃ N, evs.length = N := ⟨_, rfl⟩
  obtain ⟨NR, hNR⟩ : ∃ N, R.length = N := ⟨_, rfl⟩
  rw [hN] at k1 ⊢
  rw [hNR] at k2
  obtain ⟨W0, hW0, hsz, p0, p1, p2, b0⟩ := heap3v w (.cells #[.int .u64 (late : Int), .int .i64 (room : Int), .int .u64 (mark : Int), .int .u64 (front : Int), .slice A N c] 33) (.cells #[.int .u64 (t : Int), .int .u64 (k : Int), .int .u64 (n : Int)] 41) (.cells #[.int .u64 0, .int .i64 0, .int .u64 0, .int .u64 0, .slice none 0 0] 33)
  obtain ⟨⟨z0, z1, z2, z3, z4⟩, f0⟩ := box5 p0
  obtain ⟨r0, r1, r2⟩ := box3 p1
  have l0 := lt_of p0
  have l1 := lt_of p1
  have l2 := lt_of p2
  have hnz : ((n : Int) == 0) = false := by rw [beq_eq_false_iff_ne]; omega
  have K1 := Lib.hid (k1 W0 b0)
  have K2 := Lib.hid k2
  have P0 := Lib.hid p0
  have P1 := Lib.hid p1
  have P2 := Lib.hid p2
  have B0 := Lib.hid b0
  have HW0 := Lib.hid hW0
  have HNR := Lib.hid hNR
  clear hW0 p0 p1 p2 b0 hsz k1 k2 hN hNR hev
  go_enter Try.func28, Try.ntmps28
  go_upto_region 1 with (fail)
  rw [← HW0.out]
  go_upto_region 8 with (go_at_call 53; (with_reducible refine K1.out.mono ?_); rintro r w1 ⟨v1, rfl, ho, hb⟩; obtain ⟨A1, c1, rfl, -, -⟩ := own_form ho; rw [HNR.out] at ho ⊢; have a0 := (hb.block _ l0).trans P0.out; have a1 := (hb.block _ l1).trans P1.out; have a2 := (hb.block _ l2).trans P2.out; have Q0 := Lib.hid a0; have Q1 := Lib.hid a1; have Q2 := Lib.hid a2; have B1 := Lib.hid (thn B0.out hb); have HO := Lib.hid ho; have lt1 := lt_of a0; obtain ⟨⟨u0, u1, u2, u3, u4⟩, f1⟩ := box5 a0; clear hb ho a0 a1 a2)
  obtain ⟨W2, hW2⟩ : ∃ W, w1.setCell ⟨w.heap.size, 4, none⟩ (.slice A1 NR c1) = W := ⟨_, rfl⟩
  have g0 : W2.heap[w.heap.size]? = some (.cells #[.int .u64 (late : Int), .int .i64 (room : Int), .int .u64 (mark : Int), .int .u64 (front : Int), .slice A1 NR c1] 33) := by rw [← hW2, heap_setCell_same _ _ 4 _ _ _ Q0.out]; rfl
  have g1 : W2.heap[w.heap.size + 1]? = some (.cells #[.int .u64 (t : Int), .int .u64 (k : Int), .int .u64 (n : Int)] 41) := by rw [← hW2, Below.heap_setCell _ _ _ _ (by simp)]; exact Q1.out
  have g2 : W2.heap[w.heap.size + 1 + 1]? = some (.cells #[.int .u64 0, .int .i64 0, .int .u64 0, .int .u64 0, .slice none 0 0] 33) := by rw [← hW2, Below.heap_setCell _ _ _ _ (by simp; omega)]; exact Q2.out
  have b2 : Below w.heap.size w W2 := by rw [← hW2]; exact B1.out.setCell (p := ⟨w.heap.size, 4, none⟩) (Nat.le_refl _) _
  have ev1 : Evs w1 A1 c1 R := Evs.of_own (n := NR) HO.out
  have HFR := Lib.hid (own_from (w := w) (A := A) HO.out B0.out.size)
  have ev2 : Evs W2 A1 c1 R := by rw [← hW2]; exact ev1.other (grown_set _ _ _ _) Q0.out (by decide)
  rw [hW2]
  have k2 := K2.out W2 A1 c1 ev2
  have K3 := Lib.hid k2
  obtain ⟨⟨v0, v1, v2, v3, v4⟩, -⟩ := box5 g0
  obtain ⟨s0, s1, s2⟩ := box3 g1
  have lt2 := lt_of g0
  have lt3 := lt_of g1
  have G2 := Lib.hid g2
  have B2 := Lib.hid b2
  clear hW2 g0 g1 g2 b2 ev1 ev2 k2 K1 K2 u0 u1 u2 u3 u4 f1 z0 z1 z2 z3 z4 f0 r0 r1 r2 Q0 Q1 Q2 B1 HO P0 P1 P2 B0
  unfold Told bufV bval at K3
  dsimp only at K3
  obtain ⟨NM, hNM⟩ : ∃ N, ms.length = N := ⟨_, rfl⟩
  obtain ⟨NO, hNO⟩ : ∃ N, mo.length = N := ⟨_, rfl⟩
  rw [hNM, hNO] at K3
  have HNM := Lib.hid hNM
  have HNO := Lib.hid hNO
  clear hNM hNO
  go_wp2_with (go_at_call 54; (with_reducible refine K3.out.mono ?_); rintro e w3 ⟨A2, c2, A3, c3, rfl, hv1, hv2, hb, hfr1, hfr2⟩; have a2 := (hb.block _ (lt_of G2.out)).trans G2.out; have Q2 := Lib.hid a2; have B3 := Lib.hid (thn B2.out hb); have HV1 := Lib.hid hv1; have HV2 := Lib.hid hv2; have lt4 := lt_of a2; obtain ⟨⟨u0, u1, u2, u3, u4⟩, f3⟩ := box5 a2; clear hb hv1 hv2 a2)
  obtain ⟨W5, hW5, q5, g5⟩ := fin5 Q2.out (.int .u64 (ml : Int)) (.int .i64 (mr : Int)) (.int .u64 (mm : Int)) (.int .u64 (mf : Int)) (.slice A2 NM c2)
  rw [hW5]
  obtain ⟨⟨y0, y1, y2, y3, y4⟩, -⟩ := box5 q5
  refine bodyPost_ret (v := .tuple #[bval (ml : Int) (mr : Int) (mm : Int) (mf : Int) (.slice A2 NM c2), .slice A3 NO c3, .int .i64 0]) (by simp [results, Try.results28, go_sem, y0, y1, y2, y3, y4]) rfl ⟨A2, c2, A3, c3, ?_, ?_, ?_, below_row B3.out g5 (by omega), hfr1.new B2.out.size HFR.out, hfr2.new B2.out.size HFR.out⟩
  · show _ = Ending.returned (.tuple #[bval _ _ _ _ (.slice A2 ms.length c2), .slice A3 mo.length c3, _])
    rw [HNM.out, HNO.out]
  · exact HV1.out.other g5 Q2.out (by decide)
  · exact HV2.out.other g5 Q2.out (by decide)
end Go.Proofs.Ythncmjimfkbofaa
end
section
/- A region that draws its order, whose operations only read, and whose callees read, and may make memory: walked once, in the order of the text, by contracts that say 'Below'. -/
namespace Go.Proofs.Rw
open Go Go.RowKit

/-- A world that is as w was below. -/
structure BelowBy (w : World) where
  w' : World
  h : Below w.heap.size w w'
instance {w : World} : Inhabited (BelowBy w) := ⟨⟨w, Below.refl _ w⟩⟩
theorem wp_region_below {P : Program} {id : Nat} {Q : Exit → Act → World → Prop} {a : Act} {w : World} {l : List Oper} (hm : P.follows .mixedOrders = true) (hB : Region.lexB .any l.toArray = true)
    (h : wpQuiet P l.toArray (fun w' => ∃ p : BelowBy w, w' = p.w') (fun a' => ∀ w', (∃ p : BelowBy w, w' = p.w') → Q .normal a' w') l a) : (Code.region id l.toArray true).wp P Q a w :=
  wp_region_quiet (C := fun w' => ∃ p : BelowBy w, w' = p.w') hm hB ⟨⟨w.drew, (Below.refl _ w).drew⟩, rfl⟩ (by simpa using h)
/-- A callee's contract, met in a world of the class. -/
theorem below_of {P : Program} {f : FuncId} {args : Array Value} {w : World} {p : BelowBy w} {v : Value} (h : Calls P f args p.w' fun e w' => e = .returned v ∧ Below p.w'.heap.size p.w' w') : Calls P f args p.w' fun e w'' => e = .returned v ∧ ∃ p' : BelowBy w, w'' = p'.w' :=
  h.mono fun _ _ ⟨he, hb⟩ => ⟨he, ⟨_, p.h.trans (hb.mono p.h.size)⟩, rfl⟩
/-- A cell of an old block, in every world of the class. -/
theorem cell_below {w : World} {b i : Nat} {v : Value} (hb : b < w.heap.size) (h : w.cell? ⟨b, i, none⟩ = some v) (p : BelowBy w) : p.w'.cell? ⟨b, i, none⟩ = some v := (p.h.cell (p := ⟨b, i, none⟩) hb).trans h
end Go.Proofs.Rw
end
section
/- A row of events of the call's own whose elements are exchanged; what is compared. -/
namespace Go.Proofs.Ythncmjimfkbofaa
set_option linter.unusedVariables false
open Go.RowKit Go.Shelf Go.Proofs.Rw Go.Proofs.Lh Go.Proofs.Bu Go.Proofs.So

/-- The row of the N events l in block g. -/
structure RowN (w : World) (base g cap N : Nat) (l : List Ev) : Prop where
  len : l.length = N
  own : OwnE w base (.slice (some ⟨g, 0, none⟩) N cap) l
theorem ev_cells_set (xs : List Ev) (k : Nat) (a b c : Nat) : evL.cells (xs.set k (a, b, c)) = (((evL.cells xs).set (k * 3) (.int .u64 a)).set (k * 3 + 1) (.int .u64 b)).set (k * 3 + 2) (.int .u64 c) := by
  induction xs generalizing k with
  | nil => simp [Lay.cells]
  | cons x xs ih =>
    cases k with
    | zero => simp [Lay.cells, evL]
    | succ k =>
      rw [List.set_cons_succ, cells_cons, cells_cons, ih]
      rw [show evL.enc x = [.int .u64 x.1, .int .u64 x.2.1, .int .u64 x.2.2] from rfl, show (k + 1) * 3 = k * 3 + 1 + 1 + 1 by omega, show k * 3 + 1 + 1 + 1 + 1 = (k * 3 + 1) + 1 + 1 + 1 by omega, show k * 3 + 1 + 1 + 1 + 2 = (k * 3 + 2) + 1 + 1 + 1 by omega]
      rfl
theorem RowN.raw {w : World} {base g cap N : Nat} {l : List Ev} (h : RowN w base g cap N l) : w.ownsRow base 41 3 (.slice (some ⟨g, 0, none⟩) N cap) N (evL.cells l) := by
  have := h.own
  unfold OwnE at this
  rwa [h.len] at this
theorem RowN.of {w : World} {base g cap N : Nat} {l : List Ev} (hl : l.length = N) (h : w.ownsRow base 41 3 (.slice (some ⟨g, 0, none⟩) N cap) N (evL.cells l)) : RowN w base g cap N l := by
  refine ⟨hl, ?_⟩
  unfold OwnE
  rw [hl]
  exact h
/-- Three stores into a row. -/
theorem RowN.set {w : World} {base g cap N : Nat} {l : List Ev} (h : RowN w base g cap N l) (k a b c : Nat) :
    RowN (((w.setCell ⟨g, k * 3, none⟩ (.int .u64 a)).setCell ⟨g, k * 3 + 1, none⟩ (.int .u64 b)).setCell ⟨g, k * 3 + 2, none⟩ (.int .u64 c)) base g cap N (l.set k (a, b, c)) ∧
      w.grownBy (((w.setCell ⟨g, k * 3, none⟩ (.int .u64 a)).setCell ⟨g, k * 3 + 1, none⟩ (.int .u64 b)).setCell ⟨g, k * 3 + 2, none⟩ (.int .u64 c)) (some g) := by
  obtain ⟨h1, h2⟩ := h.raw.stored (k * 3) (.int .u64 a)
  obtain ⟨h3, h4⟩ := h1.stored (k * 3 + 1) (.int .u64 b)
  obtain ⟨h5, h6⟩ := h3.stored (k * 3 + 2) (.int .u64 c)
  refine ⟨RowN.of (by rw [List.length_set, h.len]) ?_, grown_trans (grown_trans h2 h4) h6⟩
  rw [ev_cells_set]
  exact h5
/-- The cells of an element. -/
theorem RowN.at {w : World} {base g cap N : Nat} {l : List Ev} (h : RowN w base g cap N l) {p : Nat} (hp : p < l.length) :
    w.cell? ⟨g, p * 3, none⟩ = some (.int .u64 l[p].1) ∧ w.cell? ⟨g, p * 3 + 1, none⟩ = some (.int .u64 l[p].2.1) ∧ w.cell? ⟨g, p * 3 + 2, none⟩ = some (.int .u64 l[p].2.2) := by
  have hlen := h.len
  have hc : ∀ j (hj : j < 3), w.cell? ⟨g, p * 3 + j, none⟩ = (evL.enc l[p])[j]? := fun j hj => by
    rw [h.raw.cellAt (p * 3 + j) (show p * 3 + j < N * 3 by omega)]
    exact cells_at evL l p j hp hj
  refine ⟨?_, ?_, ?_⟩
  · have := hc 0 (by omega)
    rw [Nat.add_zero] at this
    rw [this]
    rfl
  · rw [hc 1 (by omega)]
    rfl
  · rw [hc 2 (by omega)]
    rfl
theorem RowN.frozen {w : World} {base g cap N : Nat} {l : List Ev} (h : RowN w base g cap N l) (i : Nat) : w.frozen? ⟨g, i, none⟩ = false := h.raw.frozenAt i
theorem RowN.lt {w : World} {base g cap N : Nat} {l : List Ev} (h : RowN w base g cap N l) : base ≤ g ∧ g < w.heap.size := h.own.lt g rfl
theorem RowN.grow {w w' : World} {base g cap N : Nat} {l : List Ev} (h : RowN w base g cap N l) (hb : Below w.heap.size w w') : RowN w' base g cap N l := ⟨h.len, own_below h.own hb⟩
theorem RowN.drew {w : World} {base g cap N : Nat} {l : List Ev} (h : RowN w base g cap N l) : RowN w.drew base g cap N l := ⟨h.len, World.ownsRow.drew h.own⟩
/-- The stores of an exchange. -/
theorem RowN.swap {w : World} {base g cap N : Nat} {l : List Ev} (h : RowN w base g cap N l) {i j : Nat} (hi : i < l.length) (hj : j < l.length) {x y : Ev} (hx : l[i] = x) (hy : l[j] = y) :
    RowN ((((((w.setCell ⟨g, i * 3, none⟩ (.int .u64 y.1)).setCell ⟨g, i * 3 + 1, none⟩ (.int .u64 y.2.1)).setCell ⟨g, i * 3 + 2, none⟩ (.int .u64 y.2.2)).setCell ⟨g, j * 3, none⟩ (.int .u64 x.1)).setCell ⟨g, j * 3 + 1, none⟩ (.int .u64 x.2.1)).setCell ⟨g, j * 3 + 2, none⟩ (.int .u64 x.2.2)) base g cap N (swp l i j) ∧
      w.grownBy ((((((w.setCell ⟨g, i * 3, none⟩ (.int .u64 y.1)).setCell ⟨g, i * 3 + 1, none⟩ (.int .u64 y.2.1)).setCell ⟨g, i * 3 + 2, none⟩ (.int .u64 y.2.2)).setCell ⟨g, j * 3, none⟩ (.int .u64 x.1)).setCell ⟨g, j * 3 + 1, none⟩ (.int .u64 x.2.1)).setCell ⟨g, j * 3 + 2, none⟩ (.int .u64 x.2.2)) (some g) := by
  obtain ⟨h1, h2⟩ := h.set i y.1 y.2.1 y.2.2
  obtain ⟨h3, h4⟩ := h1.set j x.1 x.2.1 x.2.2
  refine ⟨?_, grown_trans h2 h4⟩
  rw [swp_eq hi hj, hx, hy]
  exact h3

/-! ### What is compared -/

def cmpT (a b : Nat) : Int := if a < b then -1 else if b < a then 1 else 0
theorem cmpT_lt (a b : Nat) : decide (cmpT a b < 0) = decide (a < b) := by
  unfold cmpT
  by_cases h1 : a < b
  · simp [h1]
  · by_cases h2 : b < a <;> simp [h1, h2]
theorem ucmp_any (a b : Nat) (w : World) : Calls Try.prog 34 #[.int .u64 (a : Int), .int .u64 (b : Int)] w fun e w' => e = .returned (.int .i64 (cmpT a b)) ∧ w' = w := by
  unfold cmpT
  by_cases h1 : a < b
  · rw [if_pos h1]
    go_enter Try.func34, Try.ntmps34
    go_wp2
    go_ret
    exact ⟨rfl, rfl⟩
  · rw [if_neg h1]
    by_cases h2 : b < a
    · rw [if_pos h2]
      go_enter Try.func34, Try.ntmps34
      go_wp2
      go_ret
      exact ⟨rfl, rfl⟩
    · rw [if_neg h2]
      go_enter Try.func34, Try.ntmps34
      go_wp2
      go_ret
      exact ⟨rfl, rfl⟩
/-- A function that compares two events by their ticks. -/
def EvCmp (f : Nat) : Prop := ∀ (x y : Ev) (W : World), Calls Try.prog f #[evV x, evV y] W fun e w' => e = .returned (.int .i64 (cmpT x.1 y.1)) ∧ Below W.heap.size W w'
set_option maxHeartbeats 1000000 in
theorem jcmp_any : EvCmp 33 := fun x y W => by
  have hcon := fun W' => ucmp_any x.1 y.1 W'
  obtain ⟨x0, x1, x2⟩ := x
  obtain ⟨y0, y1, y2⟩ := y
  dsimp only at hcon ⊢
  generalize cmpT x0 y0 = r at hcon ⊢
  have HC := Lib.hid hcon
  clear hcon
  go_enter Try.func33, Try.ntmps33
  go_wp2_with (go_at_call 34; (with_reducible refine (HC.out _).mono ?_); rintro e w' ⟨rfl, rfl⟩)
  go_ret
  exact ⟨rfl, ((Below.refl _ W).alloc (Nat.le_refl _) _).alloc (by simp) _⟩

/-! ### Parts exchanged -/

def swr (l : List Ev) (a b : Nat) : Nat → List Ev
  | 0 => l
  | n + 1 => swp (swr l a b n) (a + n) (b + n)
theorem swr_len (l : List Ev) (a b : Nat) : ∀ n, (swr l a b n).length = l.length
  | 0 => rfl
  | n + 1 => (swp_len _ _ _).trans (swr_len l a b n)
theorem swp_get {l : List Ev} {i j : Nat} (hi : i < l.length) (hj : j < l.length) (p : Nat) : (swp l i j)[p]? = if p = j then l[i]? else if p = i then l[j]? else l[p]? := by
  rw [swp_eq hi hj, List.getElem?_set, List.getElem?_set]
  by_cases h1 : p = j
  · subst h1
    rw [if_pos rfl, if_pos rfl, if_pos (by rw [List.length_set]; exact hj), List.getElem?_eq_getElem hi]
  · rw [if_neg (Ne.symm h1), if_neg h1]
    by_cases h2 : p = i
    · subst h2
      rw [if_pos rfl, if_pos rfl, if_pos hi, List.getElem?_eq_getElem hj]
    · rw [if_neg (Ne.symm h2), if_neg h2]
theorem swr_get {l : List Ev} {a b : Nat} : ∀ n, a + n ≤ b → b + n ≤ l.length → ∀ p, (swr l a b n)[p]? = if a ≤ p ∧ p < a + n then l[p + (b - a)]? else if b ≤ p ∧ p < b + n then l[p - (b - a)]? else l[p]?
  | 0, _, _, p => by rw [if_neg (by omega), if_neg (by omega)]; rfl
  | n + 1, h1, h2, p => by
    have ih := swr_get (l := l) (a := a) (b := b) n (by omega) (by omega)
    show (swp (swr l a b n) (a + n) (b + n))[p]? = _
    rw [swp_get (by rw [swr_len]; omega) (by rw [swr_len]; omega), ih, ih, ih]
    by_cases c1 : p = b + n
    · subst c1
      rw [if_pos rfl, if_neg (by omega), if_neg (by omega), if_neg (by omega), if_pos (by omega)]
      congr 1
      omega
    · rw [if_neg c1]
      by_cases c2 : p = a + n
      · subst c2
        rw [if_pos rfl, if_neg (by omega), if_neg (by omega), if_pos (by omega)]
        congr 1
        omega
      · rw [if_neg c2]
        by_cases c3 : a ≤ p ∧ p < a + n
        · rw [if_pos c3, if_pos (show a ≤ p ∧ p < a + (n + 1) by omega)]
        · by_cases c4 : b ≤ p ∧ p < b + n
          · rw [if_neg c3, if_pos c4, if_neg (show ¬ (a ≤ p ∧ p < a + (n + 1)) by omega), if_pos (show b ≤ p ∧ p < b + (n + 1) by omega)]
          · rw [if_neg c3, if_neg c4, if_neg (show ¬ (a ≤ p ∧ p < a + (n + 1)) by omega), if_neg (show ¬ (b ≤ p ∧ p < b + (n + 1)) by omega)]
theorem swr_parts {P U M V S : List Ev} {a b n : Nat} (ha : P.length = a) (hu : U.length = n) (hv : V.length = n) (hb : b = a + n + M.length) : swr (P ++ U ++ M ++ V ++ S) a b n = P ++ V ++ M ++ U ++ S := by
  apply List.ext_getElem?
  intro p
  rw [swr_get n (by omega) (by simp; omega)]
  subst ha hu hb
  simp only [List.getElem?_append, List.length_append]
  by_cases c1 : p < P.length
  · rw [if_neg (by omega), if_neg (by omega)]
    simp only [c1, show p < P.length + U.length by omega, show p < P.length + U.length + M.length by omega, show p < P.length + U.length + M.length + V.length by omega, show p < P.length + V.length by omega, show p < P.length + V.length + M.length by omega, show p < P.length + V.length + M.length + U.length by omega, if_true]
  · by_cases c2 : p < P.length + U.length
    · rw [if_pos (by omega)]
      have e1 : ¬ p + (P.length + U.length + M.length - P.length) < P.length + U.length + M.length := by omega
      have e2 : p + (P.length + U.length + M.length - P.length) < P.length + U.length + M.length + V.length := by omega
      simp only [e1, e2, c1, show p < P.length + V.length by omega, show p < P.length + V.length + M.length by omega, show p < P.length + V.length + M.length + U.length by omega, if_true, if_false]
      congr 1
      omega
    · by_cases c3 : p < P.length + U.length + M.length
      · rw [if_neg (by omega), if_neg (by omega)]
        simp only [c1, c2, c3, show p < P.length + U.length + M.length + V.length by omega, show ¬ p < P.length + V.length by omega, show p < P.length + V.length + M.length by omega, show p < P.length + V.length + M.length + U.length by omega, if_true, if_false]
        congr 1
        omega
      · by_cases c4 : p < P.length + U.length + M.length + V.length
        · rw [if_neg (by omega), if_pos (by omega)]
          have e1 : ¬ p - (P.length + U.length + M.length - P.length) < P.length := by omega
          have e2 : p - (P.length + U.length + M.length - P.length) < P.length + U.length := by omega
          have e3 : p - (P.length + U.length + M.length - P.length) < P.length + U.length + M.length := by omega
          have e4 : p - (P.length + U.length + M.length - P.length) < P.length + U.length + M.length + V.length := by omega
          simp only [e1, e2, e3, e4, c1, show ¬ p < P.length + V.length by omega, show ¬ p < P.length + V.length + M.length by omega, show p < P.length + V.length + M.length + U.length by omega, if_true, if_false]
          congr 1
          omega
        · rw [if_neg (by omega), if_neg (by omega)]
          simp only [c1, c2, c3, c4, show ¬ p < P.length + V.length by omega, show ¬ p < P.length + V.length + M.length by omega, show ¬ p < P.length + V.length + M.length + U.length by omega, if_false]
          congr 1
          omega
end Go.Proofs.Ythncmjimfkbofaa
end
section
/- The contracts of slices.swapRangeCmpFunc and of slices.rotateCmpFunc, on events. -/
namespace Go.Proofs.Ythncmjimfkbofaa
set_option linter.unusedVariables false
open Go.RowKit Go.Shelf Go.Proofs.Rw Go.Proofs.Lh Go.Proofs.Bu Go.Proofs.So

theorem grown_drew (w : World) (k : Option Nat) : w.grownBy w.drew k := ⟨rfl, rfl, rfl, Nat.le_refl _, fun _ _ _ => rfl⟩

set_option maxRecDepth 100000 in
set_option maxHeartbeats 4000000 in
theorem srange_any (a b n : Nat) (l : List Ev) (N g cap base : Nat) (fv : Value) (hab : a + n ≤ b) (hbn : b + n ≤ N) (hN : N ≤ 1000000) (w : World) (h : RowN w base g cap N l) :
    Calls Try.prog 102 #[.slice (some ⟨g, 0, none⟩) N cap, .int .i64 (a : Int), .int .i64 (b : Int), .int .i64 (n : Int), fv] w fun e w' => e = .returned (.tuple #[]) ∧ RowN w' base g cap N (swr l a b n) ∧ w.grownBy w' (some g) := by
  have H := Lib.hid h
  clear h
  go_enter Try.func102, Try.ntmps102
  go_wp2
  go_loopw [10] (fun s10 wr => ∃ i : Nat, s10 = .int .i64 (i : Int) ∧ i ≤ n ∧ Hid (RowN wr base g cap N (swr l a b i)) ∧ Hid (w.grownBy wr (some g))) (fun s10 _ => n - (intOf s10).toNat)
  case atStart => exact ⟨0, rfl, Nat.zero_le _, H, Lib.hid ⟨rfl, rfl, rfl, Nat.le_refl _, fun _ _ _ => rfl⟩⟩
  case round =>
    obtain ⟨i, rfl, hi, HR, HG⟩ := hrel
    by_cases hlt : i < n
    · obtain ⟨L, hL⟩ : ∃ L, swr l a b i = L := ⟨_, rfl⟩
      have hst : swr l a b (i + 1) = swp L (a + i) (b + i) := by rw [← hL]; rfl
      rw [hL] at HR
      obtain ⟨p, hp⟩ : ∃ p, a + i = p := ⟨_, rfl⟩
      obtain ⟨q, hq⟩ : ∃ q, b + i = q := ⟨_, rfl⟩
      rw [hp, hq] at hst
      have hlen := HR.out.len
      have hpl : p < L.length := by omega
      have hql : q < L.length := by omega
      have hpz : (a : Int) + (i : Int) = (p : Int) := by omega
      have hqz : (b : Int) + (i : Int) = (q : Int) := by omega
      have hpq : p ≠ q := by omega
      have hpN : p < N := by omega
      have hqN : q < N := by omega
      obtain ⟨x0, x1, x2⟩ := HR.out.at hpl
      obtain ⟨y0, y1, y2⟩ := HR.out.at hql
      have fz := HR.out.frozen
      have lg := HR.out.lt.2
      obtain ⟨x, hx⟩ : ∃ x, L[p] = x := ⟨_, rfl⟩
      obtain ⟨y, hy⟩ : ∃ y, L[q] = y := ⟨_, rfl⟩
      rw [hx] at x0 x1 x2
      rw [hy] at y0 y1 y2
      have hsw := HR.out.swap hpl hql hx hy
      rw [← hst] at hsw
      have HSW := Lib.hid hsw
      obtain ⟨po, hpo⟩ : ∃ o, p * 3 = o := ⟨_, rfl⟩
      obtain ⟨qo, hqo⟩ : ∃ o, q * 3 = o := ⟨_, rfl⟩
      have n0 : ¬ qo = po := by omega
      have n1 : ¬ qo = po + 1 := by omega
      have n2 : ¬ qo = po + 2 := by omega
      have n3 : ¬ qo + 1 = po := by omega
      have n4 : ¬ qo + 2 = po := by omega
      rw [hpo] at x0 x1 x2
      rw [hqo] at y0 y1 y2
      rw [hpo, hqo] at HSW
      clear hsw hst hL hp hq hlen hpl hql hx hy
      obtain ⟨xa, xb, xc⟩ := x
      obtain ⟨ya, yb, yc⟩ := y
      dsimp only at x0 x1 x2 y0 y1 y2 HSW
      go_upto_region 3 with (fail)
      go_region
      all_goals
        go_wp2
        exact ⟨⟨i + 1, by go_num, hlt, Lib.hid HSW.out.1.drew, Lib.hid (grown_trans HG.out (grown_trans HSW.out.2 (grown_drew _ _)))⟩, by simp [intOf]; omega⟩
    · have e : i = n := by omega
      subst e
      go_wp2
      exact bodyPost_end (results_none rfl _ _ _) rfl ⟨rfl, HR.out, HG.out⟩

/-- A row's parts. -/
theorem srange_parts {P U M V S : List Ev} {a b n N : Nat} (g cap base : Nat) (fv : Value) (ha : P.length = a) (hu : U.length = n) (hv : V.length = n) (hb : b = a + n + M.length) (hN : N ≤ 1000000) (w : World) (h : RowN w base g cap N (P ++ U ++ M ++ V ++ S)) :
    Calls Try.prog 102 #[.slice (some ⟨g, 0, none⟩) N cap, .int .i64 (a : Int), .int .i64 (b : Int), .int .i64 (n : Int), fv] w fun e w' => e = .returned (.tuple #[]) ∧ RowN w' base g cap N (P ++ V ++ M ++ U ++ S) ∧ w.grownBy w' (some g) := by
  have hl := h.len
  simp only [List.length_append] at hl
  have k := srange_any a b n (P ++ U ++ M ++ V ++ S) N g cap base fv (by omega) (by omega) hN w h
  rw [swr_parts ha hu hv hb] at k
  exact k

set_option maxRecDepth 100000 in
set_option maxHeartbeats 4000000 in
theorem rotate_any (a m b : Nat) (P U V S : List Ev) (N g cap base : Nat) (fv : Value) (ha : P.length = a) (hu : a + U.length = m) (hv : m + V.length = b) (hN : N ≤ 1000000) (hu0 : 0 < U.length) (hv0 : 0 < V.length) (w : World) (h : RowN w base g cap N (P ++ U ++ V ++ S)) :
    Calls Try.prog 94 #[.slice (some ⟨g, 0, none⟩) N cap, .int .i64 (a : Int), .int .i64 (m : Int), .int .i64 (b : Int), fv] w fun e w' => e = .returned (.tuple #[]) ∧ RowN w' base g cap N (P ++ V ++ U ++ S) ∧ w.grownBy w' (some g) := by
  obtain ⟨G, hG⟩ : ∃ G, P ++ V ++ U ++ S = G := ⟨_, rfl⟩
  rw [hG]
  have hl := h.len
  simp only [List.length_append] at hl
  have hi0 : (m : Int) - (a : Int) = ((U.length : Nat) : Int) := by omega
  have hj0 : (b : Int) - (m : Int) = ((V.length : Nat) : Int) := by omega
  have hmN : m ≤ 1000000 := by omega
  have hstart : ∃ (i j : Nat) (P' U' V' S' : List Ev), i = U.length ∧ j = V.length ∧ 0 < i ∧ 0 < j ∧ P'.length + i = m ∧ U'.length = i ∧ V'.length = j ∧ RowN w base g cap N (P' ++ U' ++ V' ++ S') ∧ P' ++ V' ++ U' ++ S' = G := ⟨_, _, P, U, V, S, rfl, rfl, hu0, hv0, by omega, rfl, rfl, h, hG⟩
  obtain ⟨i0, j0, P0, U0, V0, S0, hi, hj, hp1, hp2, hp3, hp4, hp5, hp6, hp7⟩ := hstart
  rw [← hi] at hi0
  rw [← hj] at hj0
  have HP0 := Lib.hid (show ∃ P' U' V' S' : List Ev, P'.length + i0 = m ∧ U'.length = i0 ∧ V'.length = j0 ∧ RowN w base g cap N (P' ++ U' ++ V' ++ S') ∧ P' ++ V' ++ U' ++ S' = G from ⟨P0, U0, V0, S0, hp3, hp4, hp5, hp6, hp7⟩)
  have hb1 : i0 ≤ 1000000 := by omega
  have hb2 : j0 ≤ 1000000 := by omega
  clear h hG hl hi hj hp3 hp4 hp5 hp6 hp7 hu hv hu0 hv0 ha
  go_enter Try.func94, Try.ntmps94
  go_wp2
  go_loopw [10, 11] (fun s10 s11 wr => ∃ i j : Nat, s10 = .int .i64 (i : Int) ∧ s11 = .int .i64 (j : Int) ∧ 0 < i ∧ 0 < j ∧ i ≤ 1000000 ∧ j ≤ 1000000 ∧ Hid (∃ P' U' V' S' : List Ev, P'.length + i = m ∧ U'.length = i ∧ V'.length = j ∧ RowN wr base g cap N (P' ++ U' ++ V' ++ S') ∧ P' ++ V' ++ U' ++ S' = G) ∧ Hid (w.grownBy wr (some g))) (fun s10 s11 _ => (intOf s10).toNat + (intOf s11).toNat)
  case atStart => exact ⟨i0, j0, by rw [← hi0], by rw [← hj0], hp1, hp2, hb1, hb2, HP0, Lib.hid ⟨rfl, rfl, rfl, Nat.le_refl _, fun _ _ _ => rfl⟩⟩
  case round =>
    obtain ⟨i, j, rfl, rfl, h1, h2, hbi, hbj, HP, HG⟩ := hrel
    clear hi0 hj0 hp1 hp2 HP0 hb1 hb2
    obtain ⟨P', U', V', S', k1, k2, k3, k4, k5⟩ := HP.out
    have hN' := k4.len
    simp only [List.length_append] at hN'
    obtain ⟨mi, hmi⟩ : ∃ x, m - i = x := ⟨_, rfl⟩
    have hmz : (m : Int) - (i : Int) = (mi : Int) := by omega
    rcases Nat.lt_trichotomy i j with hij | hij | hij
    · -- the left part is the shorter one
      have e0 : V' = V'.take (j - i) ++ V'.drop (j - i) := (List.take_append_drop _ _).symm
      obtain ⟨V1, hV1⟩ : ∃ x, V'.take (j - i) = x := ⟨_, rfl⟩
      obtain ⟨V2, hV2⟩ : ∃ x, V'.drop (j - i) = x := ⟨_, rfl⟩
      have l1 : V1.length = j - i := by rw [← hV1, List.length_take]; omega
      have l2 : V2.length = i := by rw [← hV2, List.length_drop]; omega
      rw [hV1, hV2] at e0
      subst e0
      obtain ⟨ji, hji⟩ : ∃ x, j - i = x := ⟨_, rfl⟩
      have hjz : (j : Int) - (i : Int) = (ji : Int) := by omega
      obtain ⟨mj, hmj⟩ : ∃ x, m + ji = x := ⟨_, rfl⟩
      have hmjz : (m : Int) + (j : Int) - (i : Int) = (mj : Int) := by omega
      have hcall := srange_parts (P := P') (U := U') (M := V1) (V := V2) (S := S') (a := mi) (b := mj) (n := i) g cap base fv (by omega) k2 l2 (by omega) hN wr (by simpa only [List.append_assoc] using k4)
      have HCALL := Lib.hid hcall
      have HNEW := Lib.hid (show ∀ w', RowN w' base g cap N (P' ++ V2 ++ V1 ++ U' ++ S') → ∃ P' U' V' S' : List Ev, P'.length + i = m ∧ U'.length = i ∧ V'.length = ji ∧ RowN w' base g cap N (P' ++ U' ++ V' ++ S') ∧ P' ++ V' ++ U' ++ S' = G from fun w' hw' => ⟨P', V2, V1, U' ++ S', k1, l2, by omega, by simpa only [List.append_assoc] using hw', by rw [← k5]; simp only [List.append_assoc]⟩)
      have hne : ((i : Int) == (j : Int)) = false := by rw [beq_eq_false_iff_ne]; omega
      have hij2 : ¬ (j : Int) < (i : Int) := by omega
      clear hcall hV1 hV2 l1 l2 k1 k2 k3 k4 k5 hN' hmi hji hmj HP
      go_wp2_with (go_at_call 102; (with_reducible refine HCALL.out.mono ?_); rintro e w1 ⟨rfl, hr1, hg1⟩; have HR1 := Lib.hid hr1; have HG1 := Lib.hid hg1; clear hr1 hg1)
      exact ⟨⟨i, ji, rfl, by first | rfl | rw [hjz], h1, by omega, hbi, by omega, Lib.hid (HNEW.out _ HR1.out), Lib.hid (grown_trans HG.out HG1.out)⟩, by simp [intOf]; omega⟩
    · subst hij
      have hcall := srange_parts (P := P') (U := U') (M := []) (V := V') (S := S') (a := mi) (b := m) (n := i) g cap base fv (by omega) k2 k3 (by simp; omega) hN wr (by simpa only [List.append_assoc, List.nil_append] using k4)
      simp only [List.append_assoc, List.nil_append] at hcall k5
      rw [k5] at hcall
      have HCALL := Lib.hid hcall
      clear hcall k1 k2 k3 k4 k5 hN' hmi HP
      go_wp2_with (go_at_call 102; (with_reducible refine HCALL.out.mono ?_); rintro e w1 ⟨rfl, hr1, hg1⟩; have HR1 := Lib.hid hr1; have HG1 := Lib.hid hg1; clear hr1 hg1)
      exact bodyPost_end (results_none rfl _ _ _) rfl ⟨rfl, HR1.out, grown_trans HG.out HG1.out⟩
    · have e0 : U' = U'.take j ++ U'.drop j := (List.take_append_drop _ _).symm
      obtain ⟨U1, hU1⟩ : ∃ x, U'.take j = x := ⟨_, rfl⟩
      obtain ⟨U2, hU2⟩ : ∃ x, U'.drop j = x := ⟨_, rfl⟩
      have l1 : U1.length = j := by rw [← hU1, List.length_take]; omega
      have l2 : U2.length = i - j := by rw [← hU2, List.length_drop]; omega
      rw [hU1, hU2] at e0
      subst e0
      obtain ⟨ij, hij'⟩ : ∃ x, i - j = x := ⟨_, rfl⟩
      have hijz : (i : Int) - (j : Int) = (ij : Int) := by omega
      have hcall := srange_parts (P := P') (U := U1) (M := U2) (V := V') (S := S') (a := mi) (b := m) (n := j) g cap base fv (by omega) l1 k3 (by omega) hN wr (by simpa only [List.append_assoc] using k4)
      have HCALL := Lib.hid hcall
      have HNEW := Lib.hid (show ∀ w', RowN w' base g cap N (P' ++ V' ++ U2 ++ U1 ++ S') → ∃ P' U' V' S' : List Ev, P'.length + ij = m ∧ U'.length = ij ∧ V'.length = j ∧ RowN w' base g cap N (P' ++ U' ++ V' ++ S') ∧ P' ++ V' ++ U' ++ S' = G from fun w' hw' => ⟨P' ++ V', U2, U1, S', by rw [List.length_append]; omega, by omega, l1, hw', by rw [← k5]; simp only [List.append_assoc]⟩)
      have hne : ((i : Int) == (j : Int)) = false := by rw [beq_eq_false_iff_ne]; omega
      have hij2 : (j : Int) < (i : Int) := by omega
      clear hcall hU1 hU2 l1 l2 k1 k2 k3 k4 k5 hN' hmi hij' HP
      go_wp2_with (go_at_call 102; (with_reducible refine HCALL.out.mono ?_); rintro e w1 ⟨rfl, hr1, hg1⟩; have HR1 := Lib.hid hr1; have HG1 := Lib.hid hg1; clear hr1 hg1)
      exact ⟨⟨ij, j, by first | rfl | rw [hijz], rfl, by omega, h2, by omega, hbj, Lib.hid (HNEW.out _ HR1.out), Lib.hid (grown_trans HG.out HG1.out)⟩, by simp [intOf]; omega⟩
end Go.Proofs.Ythncmjimfkbofaa
end
