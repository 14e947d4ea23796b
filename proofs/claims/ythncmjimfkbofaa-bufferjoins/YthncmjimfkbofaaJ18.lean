/- The contracts of the document's Move, Push and of one deed. · What Push, Move and one deed tell, with an error or without; what stays true of a buffer that was made. · The contract of the document's Made. · The contracts of slices.Equal on events, and of the document's Events. -/
import Derived.Test.YthncmjimfkbofaaJ16
section
/- The contracts of the document's Move, Push and of one deed. -/
namespace Go.Proofs.Ythncmjimfkbofaa
set_option linter.unusedVariables false
open Go.RowKit Go.Shelf Go.Proofs.Rw Go.Proofs.Lh Go.Proofs.Bu

set_option maxRecDepth 100000 in
set_option maxHeartbeats 4000000 in
theorem rmove_bad (b : Bf) (t : Nat) (ht : 9223372036854775807 < t) (w : World) (A : Option Addr) (c : Nat) :
    Calls Try.prog 57 #[bufV b A c, .int .u64 (t : Int)] w fun e w' => e = .returned (badV 6) ∧ Below w.heap.size w w' := by
  obtain ⟨late, room, mark, front, evs⟩ := b
  unfold bufV bval
  dsimp only
  obtain ⟨N, hN⟩ : ∃ N, evs.length = N := ⟨_, rfl⟩
  rw [hN]
  obtain ⟨W0, hW0, hsz, p0, p1, b0⟩ := heap_two w (.cells #[.int .u64 (late : Int), .int .i64 (room : Int), .int .u64 (mark : Int), .int .u64 (front : Int), .slice A N c] 29) (.cells #[.int .u64 0, .int .i64 0, .int .u64 0, .int .u64 0, .slice none 0 0] 29)
  obtain ⟨⟨x0, x1, x2, x3, x4⟩, f1⟩ := box5 p1
  have l1 := lt_of p1
  obtain ⟨W5, hW5, q5, g5⟩ := fin5 p1 (.int .u64 0) (.int .i64 0) (.int .u64 0) (.int .u64 0) (.slice none 0 0)
  obtain ⟨⟨y0, y1, y2, y3, y4⟩, -⟩ := box5 q5
  have B5 := Lib.hid (below_row b0 g5 (Nat.le_succ _))
  have HW0 := Lib.hid hW0
  have HW5 := Lib.hid hW5
  have Y := Lib.hid (And.intro y0 (And.intro y1 (And.intro y2 (And.intro y3 y4))))
  clear hW0 hW5 p0 p1 q5 g5 b0 hsz y0 y1 y2 y3 y4 hN
  go_enter Try.func57, Try.ntmps57
  go_upto_region 1 with (fail)
  rw [← HW0.out]
  go_wp2
  rw [HW5.out]
  obtain ⟨y0, y1, y2, y3, y4⟩ := Y.out
  refine bodyPost_ret (v := badV 6) (by simp [results, Try.results57, go_sem, y0, y1, y2, y3, y4]) rfl ⟨rfl, B5.out⟩

set_option maxRecDepth 100000 in
set_option maxHeartbeats 4000000 in
theorem rmove_any (b : Bf) (hb : Okb b) (t : Nat) (ht : t ≤ 9223372036854775807) (w : World) (A : Option Addr) (c : Nat) (hev : Evs w A c b.evs) :
    Calls Try.prog 57 #[bufV b A c, .int .u64 (t : Int)] w fun e w' => Told w w' A e (moveB b t) := by
  obtain ⟨late, room, mark, front, evs⟩ := b
  obtain ⟨m, hm⟩ : ∃ m, max mark t = m := ⟨_, rfl⟩
  have hmv : moveB ⟨late, room, mark, front, evs⟩ t = settleB ⟨late, room, m, front, evs⟩ := by
    unfold moveB
    dsimp only
    rw [hm]
  rw [hmv]
  have ok2 : Okb ⟨late, room, m, front, evs⟩ := ⟨hb.late, hb.room, by have := hb.mark; dsimp only at this ⊢; omega, hb.front, hb.len, hb.sd⟩
  have k2 := fun W A' c' h' => rsettle_any ⟨late, room, m, front, evs⟩ ok2 W A' c' h'
  obtain ⟨M, hM⟩ : ∃ M, settleB ⟨late, room, m, front, evs⟩ = M := ⟨_, rfl⟩
  rw [hM] at k2 ⊢
  obtain ⟨⟨ml, mr, mm, mf, ms⟩, mo⟩ := M
  unfold Told
  unfold bufV bval at k2 ⊢
  dsimp only at k2 hev ⊢
  obtain ⟨N, hN⟩ : ∃ N, evs.length = N := ⟨_, rfl⟩
  obtain ⟨NM, hNM⟩ : ∃ N, ms.length = N := ⟨_, rfl⟩
  obtain ⟨NO, hNO⟩ : ∃ N, mo.length = N := ⟨_, rfl⟩
  rw [hN, hNM, hNO] at k2
  rw [hN, hNM, hNO]
  obtain ⟨W0, hW0, hsz, p0, p1, b0⟩ := heap_two w (.cells #[.int .u64 (late : Int), .int .i64 (room : Int), .int .u64 (mark : Int), .int .u64 (front : Int), .slice A N c] 29) (.cells #[.int .u64 0, .int .i64 0, .int .u64 0, .int .u64 0, .slice none 0 0] 29)
  obtain ⟨⟨x0, x1, x2, x3, x4⟩, f0⟩ := box5 p0
  have l0 := lt_of p0
  obtain ⟨W2, hW2⟩ : ∃ W, W0.setCell ⟨w.heap.size, 2, none⟩ (.int .u64 (m : Int)) = W := ⟨_, rfl⟩
  have g0 : W2.heap[w.heap.size]? = some (.cells #[.int .u64 (late : Int), .int .i64 (room : Int), .int .u64 (m : Int), .int .u64 (front : Int), .slice A N c] 29) := by rw [← hW2, heap_setCell_same _ _ 2 _ _ _ p0]; rfl
  have g1 : W2.heap[w.heap.size + 1]? = some (.cells #[.int .u64 0, .int .i64 0, .int .u64 0, .int .u64 0, .slice none 0 0] 29) := by rw [← hW2, Below.heap_setCell _ _ _ _ (by simp)]; exact p1
  have b2 : Below w.heap.size w W2 := by rw [← hW2]; exact b0.setCell (p := ⟨w.heap.size, 2, none⟩) (Nat.le_refl _) _
  have c2 := k2 W2 A c (hev.grow b2)
  obtain ⟨⟨z0, z1, z2, z3, z4⟩, -⟩ := box5 g0
  have lt2 := lt_of g0
  have hmz : (if mark < t then (t : Int) else (mark : Int)) = (m : Int) := by split <;> omega
  have HM := Lib.hid hmz
  have HW0 := Lib.hid hW0
  have HW2 := Lib.hid hW2
  have C2 := Lib.hid c2
  have G1 := Lib.hid g1
  have B2 := Lib.hid b2
  clear hW0 hW2 c2 k2 g0 g1 b2 hev p0 p1 b0 hsz hN hNM hNO hm hM hmv ok2 hb hmz
  go_enter Try.func57, Try.ntmps57
  go_upto_region 1 with (fail)
  rw [← HW0.out]
  go_upto_region 4 with (fail)
  rw [HM.out, HW2.out]
  go_upto_region 5 with (go_at_call 74; (with_reducible refine C2.out.mono ?_); rintro e w3 ⟨A2, c2, A3, c3, rfl, hv1, hv2, hb, hfr1, hfr2⟩; have Q2 := Lib.hid ((hb.block _ (lt_of G1.out)).trans G1.out); have B3 := Lib.hid (thn B2.out hb); have HV1 := Lib.hid hv1; have HV2 := Lib.hid hv2; clear hb hv1 hv2)
  obtain ⟨W4, hW4⟩ : ∃ W, w3.alloc (.cells #[.int .u64 (ml : Int), .int .i64 (mr : Int), .int .u64 (mm : Int), .int .u64 (mf : Int), .slice A2 NM c2] 29) = W := ⟨_, rfl⟩
  have b4 : Below w3.heap.size w3 W4 := by rw [← hW4]; exact (Below.refl _ w3).alloc (Nat.le_refl _) _
  have p4 : W4.heap[w3.heap.size]? = some (.cells #[.int .u64 (ml : Int), .int .i64 (mr : Int), .int .u64 (mm : Int), .int .u64 (mf : Int), .slice A2 NM c2] 29) := by rw [← hW4]; exact heap_alloc_new w3 _
  have p5 := (b4.block _ (lt_of Q2.out)).trans Q2.out
  rw [hW4]
  obtain ⟨W5, hW5, q5, g5⟩ := fin5 p5 (.int .u64 (ml : Int)) (.int .i64 (mr : Int)) (.int .u64 (mm : Int)) (.int .u64 (mf : Int)) (.slice A2 NM c2)
  have E1 := Lib.hid ((HV1.out.grow b4).other g5 p5 (by decide))
  have E2 := Lib.hid ((HV2.out.grow b4).other g5 p5 (by decide))
  have B5 := Lib.hid (below_row (thn B3.out b4) g5 (Nat.le_succ _))
  obtain ⟨⟨y0, y1, y2, y3, y4⟩, -⟩ := box5 p4
  obtain ⟨⟨x0, x1, x2, x3, x4⟩, fx⟩ := box5 p5
  obtain ⟨⟨v0, v1, v2, v3, v4⟩, -⟩ := box5 q5
  have l4 := lt_of p4
  have l5 := lt_of p5
  have HW5 := Lib.hid hW5
  have V := Lib.hid (And.intro v0 (And.intro v1 (And.intro v2 (And.intro v3 v4))))
  clear hW4 hW5 b4 p4 p5 q5 g5 v0 v1 v2 v3 v4 z0 z1 z2 z3 z4
  go_wp2
  rw [HW5.out]
  obtain ⟨v0, v1, v2, v3, v4⟩ := V.out
  exact bodyPost_ret (v := .tuple #[bval (ml : Int) (mr : Int) (mm : Int) (mf : Int) (.slice A2 NM c2), .slice A3 NO c3, .int .i64 0]) (by simp [results, Try.results57, go_sem, v0, v1, v2, v3, v4]) rfl ⟨A2, c2, A3, c3, rfl, E1.out, E2.out, B5.out, hfr1.new B2.out.size (fun b off e => .inr ⟨off, e⟩), hfr2.new B2.out.size (fun b off e => .inr ⟨off, e⟩)⟩

set_option maxRecDepth 100000 in
set_option maxHeartbeats 4000000 in
theorem rpush_bad (b : Bf) (e : Ev) (C : Int) (hC : pushC b e = C) (h0 : C ≠ 0) (w : World) (A : Option Addr) (c : Nat) :
    Calls Try.prog 58 #[bufV b A c, evV e] w fun r w' => r = .returned (badV C) ∧ Below w.heap.size w w' := by
  obtain ⟨late, room, mark, front, evs⟩ := b
  obtain ⟨t, k, n⟩ := e
  unfold bufV bval
  unfold pushC at hC
  dsimp only at hC ⊢
  obtain ⟨N, hN⟩ : ∃ N, evs.length = N := ⟨_, rfl⟩
  rw [hN]
  obtain ⟨W0, hW0, hsz, p0, p1, p2, b0⟩ := heap3v w (.cells #[.int .u64 (late : Int), .int .i64 (room : Int), .int .u64 (mark : Int), .int .u64 (front : Int), .slice A N c] 29) (.cells #[.int .u64 (t : Int), .int .u64 (k : Int), .int .u64 (n : Int)] 41) (.cells #[.int .u64 0, .int .i64 0, .int .u64 0, .int .u64 0, .slice none 0 0] 29)
  obtain ⟨⟨x0, x1, x2, x3, x4⟩, f1⟩ := box5 p2
  obtain ⟨⟨z0, z1, z2, z3, z4⟩, -⟩ := box5 p0
  obtain ⟨r0, r1, r2⟩ := box3 p1
  have l0 := lt_of p0
  have l1 := lt_of p1
  have l2 := lt_of p2
  obtain ⟨W5, hW5, q5, g5⟩ := fin5 p2 (.int .u64 0) (.int .i64 0) (.int .u64 0) (.int .u64 0) (.slice none 0 0)
  obtain ⟨⟨y0, y1, y2, y3, y4⟩, -⟩ := box5 q5
  have B5 := Lib.hid (below_row b0 g5 (by omega))
  have HW0 := Lib.hid hW0
  have HW5 := Lib.hid hW5
  have Y := Lib.hid (And.intro y0 (And.intro y1 (And.intro y2 (And.intro y3 y4))))
  clear hW0 hW5 p0 p1 p2 q5 g5 b0 hsz y0 y1 y2 y3 y4 hN
  by_cases hn : n = 0
  · rw [if_pos hn] at hC
    subst hC
    clear h0
    have hnz : ((n : Int) == 0) = true := by rw [hn]; rfl
    clear hn
    go_enter Try.func58, Try.ntmps58
    go_upto_region 1 with (fail)
    rw [← HW0.out]
    go_wp2
    rw [HW5.out]
    obtain ⟨y0, y1, y2, y3, y4⟩ := Y.out
    refine bodyPost_ret (v := badV 1) (by simp [results, Try.results58, go_sem, y0, y1, y2, y3, y4]) rfl ⟨rfl, B5.out⟩
  rw [if_neg hn] at hC
  have hnz : ((n : Int) == 0) = false := by rw [beq_eq_false_iff_ne]; omega
  by_cases ht : 9223372036854775807 < t
  · rw [if_pos ht] at hC
    subst hC
    clear h0
    go_enter Try.func58, Try.ntmps58
    go_upto_region 1 with (fail)
    rw [← HW0.out]
    go_wp2
    rw [HW5.out]
    obtain ⟨y0, y1, y2, y3, y4⟩ := Y.out
    refine bodyPost_ret (v := badV 6) (by simp [results, Try.results58, go_sem, y0, y1, y2, y3, y4]) rfl ⟨rfl, B5.out⟩
  rw [if_neg ht] at hC
  by_cases hf : t < front
  · rw [if_pos hf] at hC
    subst hC
    clear h0
    go_enter Try.func58, Try.ntmps58
    go_upto_region 1 with (fail)
    rw [← HW0.out]
    go_wp2
    rw [HW5.out]
    obtain ⟨y0, y1, y2, y3, y4⟩ := Y.out
    refine bodyPost_ret (v := badV 4) (by simp [results, Try.results58, go_sem, y0, y1, y2, y3, y4]) rfl ⟨rfl, B5.out⟩
  · rw [if_neg hf] at hC
    exact absurd hC.symm h0

set_option maxRecDepth 100000 in
set_option maxHeartbeats 4000000 in
theorem rpush_any (b : Bf) (hb : Okb b) (hlen : b.evs.length < 100000) (e : Ev) (hC : pushC b e = 0) (w : World) (A : Option Addr) (c : Nat) (hev : Evs w A c b.evs) :
    Calls Try.prog 58 #[bufV b A c, evV e] w fun r w' => Told w w' A r (pushB b e) := by
  have hmax : e.1 ≤ 9223372036854775807 ∧ e.2.2 ≠ 0 ∧ ¬ e.1 < b.front := by
    unfold pushC at hC
    split at hC
    · cases hC
    split at hC
    · cases hC
    split at hC
    · cases hC
    · omega
  obtain ⟨ht, hn, hf⟩ := hmax
  obtain ⟨m, hm⟩ : ∃ m, max b.mark e.1 = m := ⟨_, rfl⟩
  have ok : Okb { b with mark := m, evs := insL e b.evs } := ⟨hb.late, hb.room, by have := hb.mark; dsimp only; omega, hb.front, by dsimp only; rw [ins_len]; omega, hb.sd.ins e⟩
  have k1 := fun W (hW : Below w.heap.size w W) => rsplit_any b.evs (by have := hb.len; omega) e.1 W A c (hev.grow hW).lies
  have k2 := fun W A' c' h' => rsettle_any { b with mark := m, evs := insL e b.evs } ok W A' c' h'
  have hpb : pushB b e = settleB { b with mark := m, evs := insL e b.evs } := by unfold pushB; rw [hm]
  rw [hpb]
  obtain ⟨M, hM⟩ : ∃ M, settleB { b with mark := m, evs := insL e b.evs } = M := ⟨_, rfl⟩
  rw [hM] at k2 ⊢
  have hins : insL e b.evs = ([] ++ outL e.1 b.evs ++ [e]) ++ stayL e.1 b.evs := by unfold insL; simp
  have hpl := len_parts hb.sd e.1
  obtain ⟨R, hR⟩ : ∃ R, insL e b.evs = R := ⟨_, rfl⟩
  rw [hR] at k2 hins
  obtain ⟨O, hO⟩ : ∃ R, outL e.1 b.evs = R := ⟨_, rfl⟩
  obtain ⟨S, hS⟩ : ∃ R, stayL e.1 b.evs = R := ⟨_, rfl⟩
  rw [hO, hS] at k1 hins hpl
  obtain ⟨late, room, mark, front, evs⟩ := b
  obtain ⟨⟨ml, mr, mm, mf, ms⟩, mo⟩ := M
  obtain ⟨t, k, n⟩ := e
  unfold Told
  unfold bufV bval at k2 ⊢
  dsimp only at k1 k2 ht hn hf hev hm hlen hpl ⊢
  clear hM hR ok hb hC hpb hO hS
  obtain ⟨N, hN⟩ : ∃ N, evs.length = N := ⟨_, rfl⟩
  obtain ⟨NR, hNR⟩ : ∃ N, R.length = N := ⟨_, rfl⟩
  obtain ⟨NM, hNM⟩ : ∃ N, ms.length = N := ⟨_, rfl⟩
  obtain ⟨NO, hNO⟩ : ∃ N, mo.length = N := ⟨_, rfl⟩
  rw [hN] at k1 hpl hlen
  rw [hNR, hNM, hNO] at k2
  rw [hN, hNM, hNO]
  obtain ⟨W0, hW0, hsz, p0, p1, p2, b0⟩ := heap3v w (.cells #[.int .u64 (late : Int), .int .i64 (room : Int), .int .u64 (mark : Int), .int .u64 (front : Int), .slice A N c] 29) (.cells #[.int .u64 (t : Int), .int .u64 (k : Int), .int .u64 (n : Int)] 41) (.cells #[.int .u64 0, .int .i64 0, .int .u64 0, .int .u64 0, .slice none 0 0] 29)
  obtain ⟨⟨z0, z1, z2, z3, z4⟩, f0⟩ := box5 p0
  obtain ⟨r0, r1, r2⟩ := box3 p1
  have l0 := lt_of p0
  have l1 := lt_of p1
  have l2 := lt_of p2
  have hnz : ((n : Int) == 0) = false := by rw [beq_eq_false_iff_ne]; omega
  obtain ⟨W1, hW1⟩ : ∃ W, W0.setCell ⟨w.heap.size, 2, none⟩ (.int .u64 (m : Int)) = W := ⟨_, rfl⟩
  have g0 : W1.heap[w.heap.size]? = some (.cells #[.int .u64 (late : Int), .int .i64 (room : Int), .int .u64 (m : Int), .int .u64 (front : Int), .slice A N c] 29) := by rw [← hW1, heap_setCell_same _ _ 2 _ _ _ p0]; rfl
  have g1 : W1.heap[w.heap.size + 1]? = some (.cells #[.int .u64 (t : Int), .int .u64 (k : Int), .int .u64 (n : Int)] 41) := by rw [← hW1, Below.heap_setCell _ _ _ _ (by simp)]; exact p1
  have g2 : W1.heap[w.heap.size + 1 + 1]? = some (.cells #[.int .u64 0, .int .i64 0, .int .u64 0, .int .u64 0, .slice none 0 0] 29) := by rw [← hW1, Below.heap_setCell _ _ _ _ (by simp; omega)]; exact p2
  have b1 : Below w.heap.size w W1 := by rw [← hW1]; exact b0.setCell (p := ⟨w.heap.size, 2, none⟩) (Nat.le_refl _) _
  have hmz : (if mark < t then (t : Int) else (mark : Int)) = (m : Int) := by split <;> omega
  obtain ⟨⟨y0, y1, y2, y3, y4⟩, -⟩ := box5 g0
  obtain ⟨s0, s1, s2⟩ := box3 g1
  have m0 := lt_of g0
  have m1 := lt_of g1
  have K1 := Lib.hid (k1 W1 b1)
  have K2 := Lib.hid k2
  have G0 := Lib.hid g0
  have G1 := Lib.hid g1
  have G2 := Lib.hid g2
  have B1 := Lib.hid b1
  have HW0 := Lib.hid hW0
  have HW1 := Lib.hid hW1
  have HM := Lib.hid hmz
  have HINS := Lib.hid hins
  have HPL := Lib.hid hpl
  have HNR := Lib.hid hNR
  clear hW0 hW1 p0 p1 p2 b0 b1 g0 g1 g2 hsz k1 k2 hN hNR hNM hNO hev hm hmz hins hpl
  go_enter Try.func58, Try.ntmps58
  go_upto_region 1 with (fail)
  rw [← HW0.out]
  go_upto_region 8 with (fail)
  rw [HM.out, HW1.out]
  go_upto_region 9 with (go_at_call 36; (with_reducible refine K1.out.mono ?_); rintro e w2 ⟨v1, v2, rfl, ht, hb⟩; have HT := Lib.hid ht; have Q0 := Lib.hid ((hb.block _ m0).trans G0.out); have Q1 := Lib.hid ((hb.block _ m1).trans G1.out); have Q2 := Lib.hid ((hb.block _ (lt_of G2.out)).trans G2.out); have B2 := Lib.hid (thn B1.out hb); obtain ⟨q0, q1, q2⟩ := box3 Q1.out; have l3 := lt_of Q1.out; have L1 := Lib.hid (Lies.of_own (L := evL) ht.1); have hb1 := hb.size; clear ht hb)
  have L2 := Lib.hid (Lies.of_own (L := evL) HT.out.2.1)
  have hc1 : ([] : List Ev).length + O.length ≤ 10000000 := by have := HPL.out; simp; omega
  have hc2 : ([] ++ O).length + [(t, k, n)].length ≤ 10000000 := by have := HPL.out; simp; omega
  have hc3 : ([] ++ O ++ [(t, k, n)]).length + S.length ≤ 10000000 := by have := HPL.out; simp; omega
  have HC1 := Lib.hid hc1
  have HC2 := Lib.hid hc2
  have HC3 := Lib.hid hc3
  clear hc1 hc2 hc3
  go_upto_region 10 with (at_builtin; refine wpList_app2 41 _ 24 info_event Try.underlying27 rfl (by decide) (by decide) _ rfl _ _ rfl w2.heap.size _ _ [] O _ rfl (own_new (L := evL) w2 41 #[] 0 w2.heap.size [] rfl rfl (Nat.le_refl _) (by unfold maxLen; omega)) rfl (L1.out.alloc (Nat.le_refl _) _) (ev_one _) HC1.out (by simp) ?_; intro v3 w3 o3 g3 a3; have O3 := Lib.hid o3; have b3 := ((Below.refl w2.heap.size w2).alloc (Nat.le_refl _) (.cells #[] 41)).grown g3 (by simp) (fun q hq => ((own_new (L := evL) w2 41 #[] 0 w2.heap.size [] rfl rfl (Nat.le_refl _) (by unfold maxLen; omega)).lt q hq).1); have B3 := Lib.hid b3; have X1 := Lib.hid ((b3.block _ l3).trans Q1.out); obtain ⟨d0, d1, d2⟩ := box3 X1.out; have l4 := lt_of X1.out; clear o3 g3 a3 b3)
  clear q0 q1 q2
  go_upto_region 11 with (at_builtin; refine wpList_app2 41 _ 24 info_event Try.underlying27 rfl (by decide) (by decide) _ rfl _ _ rfl w2.heap.size _ _ ([] ++ O) [(t, k, n)] _ rfl (World.ownsRow.alloc O3.out _) rfl (lit_ev _ _ _ rfl (t, k, n)) (ev_one _) HC2.out (by have := B3.out.size; simp; omega) ?_; intro v4 w4 o4 g4 a4; have O4 := Lib.hid o4; have b4 := (B3.out.alloc B3.out.size _).grown g4 (by have := B3.out.size; simp; omega) (fun q hq => (O3.out.lt q hq).1); have B4 := Lib.hid b4; clear o4 g4 a4 b4)
  go_upto_region 12 with (at_builtin; refine wpList_app2 41 _ 24 info_event Try.underlying27 rfl (by decide) (by decide) _ rfl _ _ rfl w2.heap.size _ _ ([] ++ O ++ [(t, k, n)]) S _ rfl O4.out rfl (L2.out.below B4.out) (ev_one _) HC3.out B4.out.size ?_; intro v5 w5 o5 g5 a5; have O5 := Lib.hid o5; have b5 := B4.out.grown g5 B4.out.size (fun q hq => (O4.out.lt q hq).1); have B5 := Lib.hid b5; clear o5 g5 a5 b5)
  have o5 := O5.out
  rw [← HINS.out] at o5
  obtain ⟨A5, c5, rfl, -, -⟩ := own_form o5
  rw [HNR.out] at o5 ⊢
  have HFR := Lib.hid (own_from (w := w) (A := A) o5 B2.out.size)
  have ev5 : Evs w5 A5 c5 R := Evs.of_own (n := NR) (by rw [HNR.out]; exact o5)
  have z0' := (B5.out.block _ (lt_of Q0.out)).trans Q0.out
  have z2' := (B5.out.block _ (lt_of Q2.out)).trans Q2.out
  obtain ⟨⟨u0, u1, u2, u3, u4⟩, fu⟩ := box5 z0'
  have lu := lt_of z0'
  obtain ⟨W6, hW6⟩ : ∃ W, w5.setCell ⟨w.heap.size, 4, none⟩ (.slice A5 NR c5) = W := ⟨_, rfl⟩
  have g0 : W6.heap[w.heap.size]? = some (.cells #[.int .u64 (late : Int), .int .i64 (room : Int), .int .u64 (m : Int), .int .u64 (front : Int), .slice A5 NR c5] 29) := by rw [← hW6, heap_setCell_same _ _ 4 _ _ _ z0']; rfl
  have g2 : W6.heap[w.heap.size + 1 + 1]? = some (.cells #[.int .u64 0, .int .i64 0, .int .u64 0, .int .u64 0, .slice none 0 0] 29) := by rw [← hW6, Below.heap_setCell _ _ _ _ (by simp; omega)]; exact z2'
  have b6 : Below w.heap.size w W6 := by rw [← hW6]; exact (thn B2.out B5.out).setCell (p := ⟨w.heap.size, 4, none⟩) (Nat.le_refl _) _
  have ev6 : Evs W6 A5 c5 R := by rw [← hW6]; exact ev5.other (grown_set _ _ _ _) z0' (by decide)
  have k6 := K2.out W6 A5 c5 ev6
  obtain ⟨⟨v0, v1, v2, v3, v4⟩, -⟩ := box5 g0
  have lt6 := lt_of g0
  have K6 := Lib.hid k6
  have G6 := Lib.hid g2
  have B6 := Lib.hid b6
  have HW6 := Lib.hid hW6
  clear hW6 g0 g2 b6 ev5 ev6 k6 z0' z2' o5 d0 d1 d2 s0 s1 s2 y0 y1 y2 y3 y4 z0 z1 z2 z3 z4 r0 r1 r2 K1 K2
  go_upto_region 13 with (fail)
  rw [HW6.out]
  go_upto_region 14 with (go_at_call 74; (with_reducible refine K6.out.mono ?_); rintro e w3 ⟨A2, c2, A3, c3, rfl, hv1, hv2, hb, hfr1, hfr2⟩; have Q2 := Lib.hid ((hb.block _ (lt_of G6.out)).trans G6.out); have B3 := Lib.hid (thn B6.out hb); have HV1 := Lib.hid hv1; have HV2 := Lib.hid hv2; clear hb hv1 hv2)
  obtain ⟨W4, hW4⟩ : ∃ W, w3.alloc (.cells #[.int .u64 (ml : Int), .int .i64 (mr : Int), .int .u64 (mm : Int), .int .u64 (mf : Int), .slice A2 NM c2] 29) = W := ⟨_, rfl⟩
  have b4 : Below w3.heap.size w3 W4 := by rw [← hW4]; exact (Below.refl _ w3).alloc (Nat.le_refl _) _
  have p4 : W4.heap[w3.heap.size]? = some (.cells #[.int .u64 (ml : Int), .int .i64 (mr : Int), .int .u64 (mm : Int), .int .u64 (mf : Int), .slice A2 NM c2] 29) := by rw [← hW4]; exact heap_alloc_new w3 _
  have p5 := (b4.block _ (lt_of Q2.out)).trans Q2.out
  rw [hW4]
  obtain ⟨W5, hW5, q5, g5⟩ := fin5 p5 (.int .u64 (ml : Int)) (.int .i64 (mr : Int)) (.int .u64 (mm : Int)) (.int .u64 (mf : Int)) (.slice A2 NM c2)
  have E1 := Lib.hid ((HV1.out.grow b4).other g5 p5 (by decide))
  have E2 := Lib.hid ((HV2.out.grow b4).other g5 p5 (by decide))
  have B5 := Lib.hid (below_row (thn B3.out b4) g5 (by omega))
  obtain ⟨⟨y0, y1, y2, y3, y4⟩, -⟩ := box5 p4
  obtain ⟨⟨x0, x1, x2, x3, x4⟩, fx⟩ := box5 p5
  obtain ⟨⟨v0, v1, v2, v3, v4⟩, -⟩ := box5 q5
  have l4 := lt_of p4
  have l5 := lt_of p5
  have HW5 := Lib.hid hW5
  have V := Lib.hid (And.intro v0 (And.intro v1 (And.intro v2 (And.intro v3 v4))))
  clear hW4 hW5 b4 p4 p5 q5 g5 v0 v1 v2 v3 v4
  go_wp2
  rw [HW5.out]
  obtain ⟨v0, v1, v2, v3, v4⟩ := V.out
  exact bodyPost_ret (v := .tuple #[bval (ml : Int) (mr : Int) (mm : Int) (mf : Int) (.slice A2 NM c2), .slice A3 NO c3, .int .i64 0]) (by simp [results, Try.results58, go_sem, v0, v1, v2, v3, v4]) rfl ⟨A2, c2, A3, c3, rfl, E1.out, E2.out, B5.out, hfr1.new B6.out.size HFR.out, hfr2.new B6.out.size HFR.out⟩

/-- What is told of a deed. -/
def oneC (b : Bf) (e : Ev) : Int := if e.2.2 = 0 then (if 9223372036854775807 < e.1 then 6 else 0) else pushC b e
def oneB (b : Bf) (e : Ev) : Bf × List Ev := if e.2.2 = 0 then moveB b e.1 else pushB b e
end Go.Proofs.Ythncmjimfkbofaa
end
section
/- What Push, Move and one deed tell, with an error or without; what stays true of a buffer that was made. -/
namespace Go.Proofs.Ythncmjimfkbofaa
set_option linter.unusedVariables false
open Go.RowKit Go.Shelf Go.Proofs.Rw Go.Proofs.Lh Go.Proofs.Bu

/-- The zero buffer. -/
def zB : Bf := ⟨0, 0, 0, 0, []⟩
/-- A buffer, events and an error, told. -/
def ToldC (w w' : World) (A : Option Addr) (e : Ending) (r : Bf × List Ev) (C : Int) : Prop :=
  ∃ A1 c1 A2 c2, e = .returned (.tuple #[bufV r.1 A1 c1, .slice A2 r.2.length c2, .int .i64 C]) ∧ Evs w' A1 c1 r.1.evs ∧ Evs w' A2 c2 r.2 ∧ Below w.heap.size w w' ∧ From w A A1 ∧ From w A A2
theorem toldC_bad {w w' : World} {A : Option Addr} {e : Ending} {C : Int} (h : e = .returned (badV C) ∧ Below w.heap.size w w') : ToldC w w' A e (zB, []) C :=
  ⟨none, 0, none, 0, h.1, Evs.none _, Evs.none _, h.2, From.none _ _, From.none _ _⟩

def moveC (t : Nat) : Int := if 9223372036854775807 < t then 6 else 0
def moveR (b : Bf) (t : Nat) : Bf × List Ev := if moveC t = 0 then moveB b t else (zB, [])
def pushR (b : Bf) (e : Ev) : Bf × List Ev := if pushC b e = 0 then pushB b e else (zB, [])
def oneR (b : Bf) (e : Ev) : Bf × List Ev := if oneC b e = 0 then oneB b e else (zB, [])

theorem may_ok {b : Bf} (h : MayB b) : Okb b := ⟨by have := h.late; omega, by have := h.room; omega, by have := h.turn; omega, by have := h.turn; omega, by have := h.few; have := h.room; omega, h.sd⟩
theorem may_lt {b : Bf} (h : MayB b) : b.evs.length < 100000 := by have := h.few; have := h.room; omega

theorem moveC_yes {t : Nat} (h : t ≤ 9223372036854775807) : moveC t = 0 := by unfold moveC; rw [if_neg (by omega)]
theorem moveC_no {t : Nat} (h : 9223372036854775807 < t) : moveC t = 6 := by unfold moveC; rw [if_pos h]

theorem bmove_c (b : Bf) (hb : Okb b) (t : Nat) (w : World) (A : Option Addr) (c : Nat) (hev : Evs w A c b.evs) :
    Calls Try.prog 54 #[bufV b A c, .int .u64 (t : Int)] w fun e w' => ToldC w w' A e (moveR b t) (moveC t) := by
  unfold moveR
  by_cases ht : t ≤ 9223372036854775807
  · rw [moveC_yes ht, if_pos rfl]
    exact bmove_any b hb t ht w A c hev
  · rw [moveC_no (by omega), if_neg (by decide)]
    exact (bmove_bad b t (by omega) w A c).mono fun _ _ h => toldC_bad h
theorem rmove_c (b : Bf) (hb : Okb b) (t : Nat) (w : World) (A : Option Addr) (c : Nat) (hev : Evs w A c b.evs) :
    Calls Try.prog 57 #[bufV b A c, .int .u64 (t : Int)] w fun e w' => ToldC w w' A e (moveR b t) (moveC t) := by
  unfold moveR
  by_cases ht : t ≤ 9223372036854775807
  · rw [moveC_yes ht, if_pos rfl]
    exact rmove_any b hb t ht w A c hev
  · rw [moveC_no (by omega), if_neg (by decide)]
    exact (rmove_bad b t (by omega) w A c).mono fun _ _ h => toldC_bad h
theorem bpush_c (b : Bf) (hb : Okb b) (hlen : b.evs.length < 100000) (e : Ev) (w : World) (A : Option Addr) (c : Nat) (hev : Evs w A c b.evs) :
    Calls Try.prog 28 #[bufV b A c, evV e] w fun r w' => ToldC w w' A r (pushR b e) (pushC b e) := by
  unfold pushR
  by_cases h0 : pushC b e = 0
  · rw [if_pos h0, h0]
    exact bpush_any b hb hlen e h0 w A c hev
  · rw [if_neg h0]
    exact (bpush_bad b e _ rfl h0 w A c).mono fun _ _ h => toldC_bad h
theorem rpush_c (b : Bf) (hb : Okb b) (hlen : b.evs.length < 100000) (e : Ev) (w : World) (A : Option Addr) (c : Nat) (hev : Evs w A c b.evs) :
    Calls Try.prog 58 #[bufV b A c, evV e] w fun r w' => ToldC w w' A r (pushR b e) (pushC b e) := by
  unfold pushR
  by_cases h0 : pushC b e = 0
  · rw [if_pos h0, h0]
    exact rpush_any b hb hlen e h0 w A c hev
  · rw [if_neg h0]
    exact (rpush_bad b e _ rfl h0 w A c).mono fun _ _ h => toldC_bad h

theorem one_move {b : Bf} {e : Ev} (h : e.2.2 = 0) : oneR b e = moveR b e.1 ∧ oneC b e = moveC e.1 := by
  unfold oneR moveR oneC oneB moveC
  rw [if_pos h, if_pos h]
  exact ⟨rfl, rfl⟩
theorem one_push {b : Bf} {e : Ev} (h : ¬ e.2.2 = 0) : oneR b e = pushR b e ∧ oneC b e = pushC b e := by
  unfold oneR pushR oneC oneB
  rw [if_neg h, if_neg h]
  exact ⟨rfl, rfl⟩

set_option maxRecDepth 100000 in
set_option maxHeartbeats 4000000 in
theorem one_c (b : Bf) (hb : Okb b) (hlen : b.evs.length < 100000) (e : Ev) (w : World) (A : Option Addr) (c : Nat) (hev : Evs w A c b.evs) :
    Calls Try.prog 30 #[bufV b A c, evV e] w fun r w' => ToldC w w' A r (oneR b e) (oneC b e) := by
  have k1 := fun W A' c' h' => rmove_c b hb e.1 W A' c' h'
  have k2 := fun W A' c' h' => rpush_c b hb hlen e W A' c' h'
  obtain ⟨M, hM⟩ : ∃ M, oneR b e = M := ⟨_, rfl⟩
  obtain ⟨C, hC⟩ : ∃ M, oneC b e = M := ⟨_, rfl⟩
  rw [hM, hC]
  obtain ⟨W0, hW0, hsz, p0, p1, p2, b0⟩ := heap3v w (.cells #[.int .u64 (b.late : Int), .int .i64 (b.room : Int), .int .u64 (b.mark : Int), .int .u64 (b.front : Int), .slice A b.evs.length c] 29) (.cells #[.int .u64 (e.1 : Int), .int .u64 (e.2.1 : Int), .int .u64 (e.2.2 : Int)] 41) (.cells #[.int .u64 0, .int .i64 0, .int .u64 0, .int .u64 0, .slice none 0 0] 29)
  have ev0 := hev.grow b0
  have k1 := k1 W0 A c ev0
  have k2 := k2 W0 A c ev0
  have hcase : (e.2.2 = 0 → Calls Try.prog 57 #[bufV b A c, .int .u64 (e.1 : Int)] W0 fun r w' => ToldC W0 w' A r M C) ∧ (¬ e.2.2 = 0 → Calls Try.prog 58 #[bufV b A c, evV e] W0 fun r w' => ToldC W0 w' A r M C) := by
    refine ⟨fun h => ?_, fun h => ?_⟩
    · obtain ⟨h1, h2⟩ := one_move (b := b) h
      rw [hM] at h1
      rw [hC] at h2
      rw [h1, h2]
      exact k1
    · obtain ⟨h1, h2⟩ := one_push (b := b) h
      rw [hM] at h1
      rw [hC] at h2
      rw [h1, h2]
      exact k2
  obtain ⟨hc1, hc2⟩ := hcase
  obtain ⟨⟨ml, mr, mm, mf, ms⟩, mo⟩ := M
  obtain ⟨late, room, mark, front, evs⟩ := b
  obtain ⟨t, k, n⟩ := e
  unfold ToldC at hc1 hc2 ⊢
  unfold bufV bval at hc1 hc2 ⊢
  dsimp only at hc1 hc2 p0 p1 p2 hW0 ⊢
  obtain ⟨N, hN⟩ : ∃ N, evs.length = N := ⟨_, rfl⟩
  obtain ⟨NM, hNM⟩ : ∃ N, ms.length = N := ⟨_, rfl⟩
  obtain ⟨NO, hNO⟩ : ∃ N, mo.length = N := ⟨_, rfl⟩
  rw [hN, hNM, hNO] at hc1 hc2 ⊢
  rw [hN] at p0 hW0
  obtain ⟨⟨z0, z1, z2, z3, z4⟩, f0⟩ := box5 p0
  obtain ⟨r0, r1, r2⟩ := box3 p1
  have l0 := lt_of p0
  have l1 := lt_of p1
  have P2 := Lib.hid p2
  have B0 := Lib.hid b0
  have HW0 := Lib.hid hW0
  clear hb hlen hev k1 k2 hM hC p0 p1 p2 b0 hsz ev0 hN hNM hNO hW0
  by_cases hn : n = 0
  · have HC := Lib.hid (hc1 hn)
    have hnz : ((n : Int) == 0) = true := by rw [hn]; rfl
    clear hc1 hc2 hn
    go_enter Try.func30, Try.ntmps30
    go_upto_region 1 with (fail)
    rw [← HW0.out]
    go_wp2_with (go_at_call 57; (with_reducible refine HC.out.mono ?_); rintro e w3 ⟨A2, c2, A3, c3, rfl, hv1, hv2, hb, hfr1, hfr2⟩; have a2 := (hb.block _ (lt_of P2.out)).trans P2.out; have Q2 := Lib.hid a2; have B3 := Lib.hid (thn B0.out hb); have HV1 := Lib.hid hv1; have HV2 := Lib.hid hv2; have lt4 := lt_of a2; obtain ⟨⟨u0, u1, u2, u3, u4⟩, f3⟩ := box5 a2; clear hb hv1 hv2 a2)
    obtain ⟨W5, hW5, q5, g5⟩ := fin5 Q2.out (.int .u64 (ml : Int)) (.int .i64 (mr : Int)) (.int .u64 (mm : Int)) (.int .u64 (mf : Int)) (.slice A2 NM c2)
    rw [hW5]
    obtain ⟨⟨y0, y1, y2, y3, y4⟩, -⟩ := box5 q5
    exact bodyPost_ret (v := .tuple #[bval (ml : Int) (mr : Int) (mm : Int) (mf : Int) (.slice A2 NM c2), .slice A3 NO c3, .int .i64 C]) (by simp [results, Try.results30, go_sem, y0, y1, y2, y3, y4]) rfl ⟨A2, c2, A3, c3, rfl, HV1.out.other g5 Q2.out (by decide), HV2.out.other g5 Q2.out (by decide), below_row B3.out g5 (by omega), hfr1.new B0.out.size (fun b off e => .inr ⟨off, e⟩), hfr2.new B0.out.size (fun b off e => .inr ⟨off, e⟩)⟩
  · have HC := Lib.hid (hc2 hn)
    have hnz : ((n : Int) == 0) = false := by rw [beq_eq_false_iff_ne]; omega
    clear hc1 hc2 hn
    go_enter Try.func30, Try.ntmps30
    go_upto_region 1 with (fail)
    rw [← HW0.out]
    go_wp2_with (go_at_call 58; (with_reducible refine HC.out.mono ?_); rintro e w3 ⟨A2, c2, A3, c3, rfl, hv1, hv2, hb, hfr1, hfr2⟩; have a2 := (hb.block _ (lt_of P2.out)).trans P2.out; have Q2 := Lib.hid a2; have B3 := Lib.hid (thn B0.out hb); have HV1 := Lib.hid hv1; have HV2 := Lib.hid hv2; have lt4 := lt_of a2; obtain ⟨⟨u0, u1, u2, u3, u4⟩, f3⟩ := box5 a2; clear hb hv1 hv2 a2)
    obtain ⟨W5, hW5, q5, g5⟩ := fin5 Q2.out (.int .u64 (ml : Int)) (.int .i64 (mr : Int)) (.int .u64 (mm : Int)) (.int .u64 (mf : Int)) (.slice A2 NM c2)
    rw [hW5]
    obtain ⟨⟨y0, y1, y2, y3, y4⟩, -⟩ := box5 q5
    exact bodyPost_ret (v := .tuple #[bval (ml : Int) (mr : Int) (mm : Int) (mf : Int) (.slice A2 NM c2), .slice A3 NO c3, .int .i64 C]) (by simp [results, Try.results30, go_sem, y0, y1, y2, y3, y4]) rfl ⟨A2, c2, A3, c3, rfl, HV1.out.other g5 Q2.out (by decide), HV2.out.other g5 Q2.out (by decide), below_row B3.out g5 (by omega), hfr1.new B0.out.size (fun b off e => .inr ⟨off, e⟩), hfr2.new B0.out.size (fun b off e => .inr ⟨off, e⟩)⟩

/-! ### What was made -/

theorem pushC_zero {b : Bf} {e : Ev} (h : pushC b e = 0) : e.1 ≤ 9223372036854775807 ∧ 1 ≤ e.2.2 ∧ b.front ≤ e.1 := by
  unfold pushC at h
  split at h
  · cases h
  split at h
  · cases h
  split at h
  · cases h
  · omega
theorem one_may {b : Bf} (h : MayB b) {e : Ev} (h0 : oneC b e = 0) : MayB (oneB b e).1 := by
  unfold oneB
  by_cases hn : e.2.2 = 0
  · rw [if_pos hn]
    rw [(one_move hn).2] at h0
    refine h.move ?_
    unfold moveC at h0
    split at h0
    · cases h0
    · omega
  · rw [if_neg hn]
    rw [(one_push hn).2] at h0
    obtain ⟨h1, h2, _⟩ := pushC_zero h0
    exact h.push h2 h1
/-- A deed; what is refused is passed over. -/
def stepM (s : Bf × List Ev) (e : Ev) : Bf × List Ev := if oneC s.1 e = 0 then ((oneB s.1 e).1, s.2 ++ (oneB s.1 e).2) else s
def freshB (late room : Nat) : Bf := ⟨late, room, 0, 0, []⟩
def madeM (late room : Nat) (l : List Ev) : Bf × List Ev := l.foldl stepM (freshB late room, [])
theorem fresh_may {late room : Nat} (h : late ≤ 4611686018427387904) (h1 : 1 ≤ room) (h2 : room ≤ 1024) : MayB (freshB late room) :=
  ⟨h, ⟨h1, h2⟩, Nat.zero_le _, List.Pairwise.nil, fun e he => (by cases he), Nat.le_refl _, (by show (0 : Nat) ≤ _; omega), (by show 0 - 0 ≤ late; omega)⟩
theorem stepM_may {s : Bf × List Ev} (h : MayB s.1) (e : Ev) : MayB (stepM s e).1 := by
  unfold stepM
  split
  · rename_i h0
    exact one_may h h0
  · exact h
theorem foldM_may : ∀ (l : List Ev) (s : Bf × List Ev), MayB s.1 → MayB (l.foldl stepM s).1
  | [], _, h => h
  | e :: l, s, h => foldM_may l _ (stepM_may h e)
theorem made_may {late room : Nat} (h : late ≤ 4611686018427387904) (h1 : 1 ≤ room) (h2 : room ≤ 1024) (l : List Ev) : MayB (madeM late room l).1 := foldM_may l _ (fresh_may h h1 h2)
theorem made_step {late room : Nat} {l : List Ev} {j : Nat} (hj : j < l.length) : madeM late room (l.take (j + 1)) = stepM (madeM late room (l.take j)) l[j] := by
  unfold madeM
  rw [List.take_succ_eq_append_getElem hj, List.foldl_append]
  rfl
end Go.Proofs.Ythncmjimfkbofaa
end
section
/- The contract of the document's Made. -/
namespace Go.Proofs.Ythncmjimfkbofaa
set_option linter.unusedVariables false
open Go.RowKit Go.Shelf Go.Proofs.Rw Go.Proofs.Lh Go.Proofs.Bu

/-- A buffer's variable, and the events in it. -/
def VarB (T : TypeId) (w : World) (p : Nat) (A : Option Addr) (c : Nat) (b : Bf) : Prop :=
  w.heap[p]? = some (.cells #[.int .u64 (b.late : Int), .int .i64 (b.room : Int), .int .u64 (b.mark : Int), .int .u64 (b.front : Int), .slice A b.evs.length c] T) ∧ Evs w A c b.evs
theorem VarB.grow {T : TypeId} {w w' : World} {p : Nat} {A : Option Addr} {c : Nat} {b : Bf} (h : VarB T w p A c b) (hb : Below w.heap.size w w') : VarB T w' p A c b := ⟨(hb.block p (lt_of h.1)).trans h.1, h.2.grow hb⟩
/-- What is behind a call whose results are laid into a new variable. -/
def Laid (T : TypeId) (wr wx : World) (A : Option Addr) (s1 s2 s3 : Value) (r : Bf × List Ev) (C : Int) : Prop :=
  ∃ p A1 c1 A2 c2, s1 = .pointer (some ⟨p, 0, none⟩) ∧ wr.heap.size ≤ p ∧ VarB T wx p A1 c1 r.1 ∧ s2 = .slice A2 r.2.length c2 ∧ Evs wx A2 c2 r.2 ∧ s3 = .int .i64 C ∧ Below wr.heap.size wr wx ∧ From wr A A1 ∧ From wr A A2

theorem laid_after {T : TypeId} {wr X w1 : World} {A A2 A3 : Option Addr} {c2 c3 : Nat} {r : Bf × List Ev} {C : Int} (hX : Below wr.heap.size wr X) (hb : Below X.heap.size X w1) (h1 : Evs w1 A2 c2 r.1.evs) (h2 : Evs w1 A3 c3 r.2) (f1 : From X A A2) (f2 : From X A A3) :
    Laid T wr (w1.alloc (.cells #[.int .u64 (r.1.late : Int), .int .i64 (r.1.room : Int), .int .u64 (r.1.mark : Int), .int .u64 (r.1.front : Int), .slice A2 r.1.evs.length c2] T)) A (.pointer (some ⟨w1.heap.size, 0, none⟩)) (.slice A3 r.2.length c3) (.int .i64 C) r C := by
  have ha := (Below.refl w1.heap.size w1).alloc (Nat.le_refl _) (.cells #[.int .u64 (r.1.late : Int), .int .i64 (r.1.room : Int), .int .u64 (r.1.mark : Int), .int .u64 (r.1.front : Int), .slice A2 r.1.evs.length c2] T)
  exact ⟨w1.heap.size, A2, c2, A3, c3, rfl, Nat.le_trans hX.size hb.size, ⟨heap_alloc_new w1 _, h1.grow ha⟩, rfl, h2.grow ha, rfl, thn (thn hX hb) ha, f1.new hX.size (fun b off e => .inr ⟨off, e⟩), f2.new hX.size (fun b off e => .inr ⟨off, e⟩)⟩
theorem laid_before {T : TypeId} (hT : T ≠ 41) {wr X w1 : World} {p : Nat} {v0 v1 v2 v3 v4 : Value} {A A2 A3 : Option Addr} {c2 c3 : Nat} {r : Bf × List Ev} {C : Int} (hX : Below wr.heap.size wr X) (hp : wr.heap.size ≤ p) (hq : w1.heap[p]? = some (.cells #[v0, v1, v2, v3, v4] T)) (hb : Below X.heap.size X w1) (h1 : Evs w1 A2 c2 r.1.evs) (h2 : Evs w1 A3 c3 r.2) (f1 : From X A A2) (f2 : From X A A3) :
    Laid T wr (((((w1.setCell ⟨p, 0, none⟩ (.int .u64 (r.1.late : Int))).setCell ⟨p, 1, none⟩ (.int .i64 (r.1.room : Int))).setCell ⟨p, 2, none⟩ (.int .u64 (r.1.mark : Int))).setCell ⟨p, 3, none⟩ (.int .u64 (r.1.front : Int))).setCell ⟨p, 4, none⟩ (.slice A2 r.1.evs.length c2)) A (.pointer (some ⟨p, 0, none⟩)) (.slice A3 r.2.length c3) (.int .i64 C) r C := by
  obtain ⟨W5, hW5, q5, g5⟩ := fin5 hq (.int .u64 (r.1.late : Int)) (.int .i64 (r.1.room : Int)) (.int .u64 (r.1.mark : Int)) (.int .u64 (r.1.front : Int)) (.slice A2 r.1.evs.length c2)
  rw [hW5]
  exact ⟨p, A2, c2, A3, c3, rfl, hp, ⟨q5, h1.other g5 hq hT⟩, rfl, h2.other g5 hq hT, rfl, below_row (thn hX hb) g5 hp, f1.new hX.size (fun b off e => .inr ⟨off, e⟩), f2.new hX.size (fun b off e => .inr ⟨off, e⟩)⟩

/-- Not in the row's block. -/
def Off (A : Option Addr) (v : Value) : Prop := ∀ b off, A = some ⟨b, off, none⟩ → v.ownBlock ≠ some b
theorem off_from {w wr : World} {base : Nat} {A A2 : Option Addr} {v : Value} {xs : List Ev} (ho : OwnE wr base v xs) (hoff : Off A v) (hf : From wr A A2) : Off A2 v := fun b off e h => by
  rcases hf b off e with h1 | ⟨off', h1⟩
  · have := (ho.lt b h).2
    omega
  · exact hoff b off' h1 h
theorem off_next {w5 : World} {A2 : Option Addr} {c2 : Nat} {v v' : Value} {xs : List Ev} (hoff : Off A2 v) (hev : Evs w5 A2 c2 xs) (hat : v'.ownBlock = v.ownBlock ∨ v'.ownBlock = some w5.heap.size) : Off A2 v' := fun b off e h => by
  rcases hat with h1 | h1
  · exact hoff b off e (by rw [← h1]; exact h)
  · obtain ⟨cs, fr, hh⟩ := hev.typed b off e
    have := lt_of hh
    rw [h1] at h
    injection h with h
    omega
theorem off_row {w5 w6 : World} {A2 : Option Addr} {c2 : Nat} {v : Value} {xs : List Ev} (hoff : Off A2 v) (hev : Evs w5 A2 c2 xs) (hg : w5.grownBy w6 v.ownBlock) : Evs w6 A2 c2 xs := by
  refine hev.row hg fun b hb e => ?_
  rcases hev.fine with ⟨rfl, _⟩ | ⟨b', off', rfl⟩
  · cases hb
  · have : b' = b := by simpa [Value.ownBlock] using hb
    exact hoff b' off' rfl (by rw [this]; exact e.symm)

def lateOf (late : Int) : Nat := (late % 1000).toNat
def roomOf2 (room : Int) : Nat := (1 + max room 0 % 50).toNat
theorem roomOf2_eq (room : Int) : ((roomOf2 room : Nat) : Int) = 1 + max room 0 % 50 := by unfold roomOf2; omega
theorem roomOf2_le (room : Int) : 1 ≤ roomOf2 room ∧ roomOf2 room ≤ 50 := by unfold roomOf2; omega
theorem lateOf_eq (late : Int) (h : 0 ≤ late) : ((lateOf late : Nat) : Int) = late % 1000 ∧ lateOf late ≤ 999 := by unfold lateOf; omega

theorem stepM_len {s : Bf × List Ev} (h : MayB s.1) (e : Ev) : (stepM s e).1.evs.length + (stepM s e).2.length ≤ s.1.evs.length + s.2.length + 1 := by
  unfold stepM
  split
  · dsimp only
    rw [List.length_append]
    unfold oneB
    split
    · have := len_parts h.sd (frontB s.1.late s.1.room (max s.1.mark e.1) s.1.front s.1.evs)
      unfold moveB settleB
      dsimp only
      omega
    · have := len_parts (h.sd.ins e) (frontB s.1.late s.1.room (max s.1.mark e.1) s.1.front (insL e s.1.evs))
      have hi := ins_len e s.1.evs
      unfold pushB settleB
      dsimp only
      omega
  · omega
theorem foldM_len : ∀ (l : List Ev) (s : Bf × List Ev), MayB s.1 → (l.foldl stepM s).1.evs.length + (l.foldl stepM s).2.length ≤ s.1.evs.length + s.2.length + l.length
  | [], s, _ => by simp
  | e :: l, s, h => by
    have h1 := foldM_len l (stepM s e) (stepM_may h e)
    have h2 := stepM_len h e
    rw [List.foldl_cons, List.length_cons]
    omega
theorem madeM_len {late room : Nat} (h : late ≤ 4611686018427387904) (h1 : 1 ≤ room) (h2 : room ≤ 1024) (l : List Ev) : (madeM late room l).1.evs.length + (madeM late room l).2.length ≤ l.length := by
  have := foldM_len l (freshB late room, []) (fresh_may h h1 h2)
  simpa [freshB, madeM] using this
set_option maxRecDepth 100000 in
set_option maxHeartbeats 2000000 in
theorem bmade_any (late room : Int) (h0 : 0 ≤ late) (h1 : late < 18446744073709551616) (h2 : -9223372036854775808 ≤ room) (h3 : room ≤ 9223372036854775807) (l : List Ev) (hfit : Fits3 l) (w : World) (A : Option Addr) (n c : Nat) (hn : l.length = n) (hl : Lies evL w w.heap.size (.slice A n c) l) :
    Calls Try.prog 10 #[.int .u64 late, .int .i64 room, .slice A n c] w fun e w' => ∃ A1 c1 A2 c2, e = .returned (.tuple #[bufV (madeM (lateOf late) (roomOf2 room) (l.take 40)).1 A1 c1, .slice A2 (madeM (lateOf late) (roomOf2 room) (l.take 40)).2.length c2]) ∧
      Evs w' A1 c1 (madeM (lateOf late) (roomOf2 room) (l.take 40)).1.evs ∧ Evs w' A2 c2 (madeM (lateOf late) (roomOf2 room) (l.take 40)).2 ∧ Below w.heap.size w w' := by
  obtain ⟨lt, hlt⟩ : ∃ x, lateOf late = x := ⟨_, rfl⟩
  obtain ⟨rm, hrm⟩ : ∃ x, roomOf2 room = x := ⟨_, rfl⟩
  have hle := lateOf_eq late h0
  have hre := roomOf2_eq room
  have hrl := roomOf2_le room
  rw [hlt] at hle ⊢
  rw [hrm] at hre hrl ⊢
  have hmm := fun j => made_may (late := lt) (room := rm) (by omega) hrl.1 (by omega) (l.take j)
  have HM := Lib.hid hmm
  have hml := fun j => madeM_len (late := lt) (room := rm) (by omega) hrl.1 (by omega) (l.take j)
  have HML := Lib.hid hml
  clear hml
  have HRE := Lib.hid hre
  have HLE := Lib.hid hle.1
  have HL := Lib.hid hl
  have HN := Lib.hid hn
  clear hmm hl hn hlt hrm hre hle
  obtain ⟨W0, hW0, hsz, p0, p1, hB0⟩ := heap_two w (.cells #[.int .u64 0, .int .i64 0, .int .u64 0, .int .u64 0, .slice none 0 0] 29) (.cells #[.int .u64 (lt : Int), .int .i64 (rm : Int), .int .u64 0, .int .u64 0, .slice none 0 0] 29)
  have HW0 := Lib.hid hW0
  have HB0 := Lib.hid hB0
  have P0 := Lib.hid p0
  have P1 := Lib.hid p1
  clear hW0 hB0 p0 p1 hsz
  go_enter Try.func10, Try.ntmps10
  go_upto_region 1 with (fail)
  go_cut [8] from 14 to 20 (fun s8 wx => s8 = .pointer (some ⟨w.heap.size + 1, 0, none⟩) ∧ W0 = wx)
  case first =>
    by_cases h : 0 ≤ room
    · go_wp2
      go_meet
      case rel =>
        refine ⟨rfl, ?_⟩
        rw [HW0.out, HLE.out, HRE.out, Int.max_eq_left h]
    · go_wp2
      go_meet
      case rel =>
        refine ⟨rfl, ?_⟩
        have e : (rm : Int) = 1 := by have := HRE.out; rw [this]; omega
        rw [HW0.out, HLE.out, e]
  case rest =>
    obtain ⟨rfl, rfl⟩ := hcut
    clear HW0 HRE HLE
    go_wp2
    go_loopw [9, 10] (fun s9 s10 wr => ∃ (j : Nat) (A1 : Option Addr) (c1 : Nat), s10 = .int .i64 (j : Int) ∧ j ≤ 40 ∧ j ≤ n ∧ Hid (VarB 29 wr (w.heap.size + 1) A1 c1 (madeM lt rm (l.take j)).1) ∧ Hid (OwnE wr w.heap.size s9 (madeM lt rm (l.take j)).2) ∧ Hid (Off A1 s9) ∧
      Hid (wr.heap[w.heap.size]? = some (.cells #[.int .u64 0, .int .i64 0, .int .u64 0, .int .u64 0, .slice none 0 0] 29)) ∧ Hid (Below w.heap.size w wr)) (fun _ s10 _ => 40 - (intOf s10).toNat)
    case atStart => exact ⟨0, none, 0, rfl, by omega, Nat.zero_le _, Lib.hid ⟨P1.out, Evs.none _⟩, Lib.hid (World.ownsRow_nil _ _ _ _), Lib.hid (fun _ _ e => by cases e), P0, HB0⟩
    case round =>
      obtain ⟨j, A1, c1, rfl, hj40, hjn, HV, HO, HOF, HZ, HB⟩ := hrel
      by_cases hlt : j < 40 ∧ j < n
      · obtain ⟨hlt1, hlt2⟩ := hlt
        have hjl : j < l.length := by rw [HN.out]; exact hlt2
        have hLw : Lies evL wr w.heap.size (.slice A l.length c) l := by rw [HN.out]; exact HL.out.below HB.out
        obtain ⟨b, off, rfl, hb, -, hc⟩ := ev_at hLw (by omega)
        obtain ⟨q0, q1, q2⟩ := hc j hjl
        have hst := made_step (late := lt) (room := rm) hjl
        have hmy := HM.out j
        have hmln := HML.out (j + 1)
        rw [List.length_take] at hmln
        obtain ⟨e, he⟩ : ∃ e, l[j] = e := ⟨_, rfl⟩
        obtain ⟨s, hs⟩ : ∃ s, madeM lt rm (l.take j) = s := ⟨_, rfl⟩
        rw [he] at q0 q1 q2 hst
        rw [hs] at HV HO hst hmy
        have hone := fun W A' c' h' => one_c s.1 (may_ok hmy) (may_lt hmy) e W A' c' h'
        have hcall := fun (W : World) (hW : Below wr.heap.size wr W) => hone W A1 c1 (HV.out.2.grow hW)
        obtain ⟨⟨x0, x1, x2, x3, x4⟩, fx⟩ := box5 HV.out.1
        have lv := lt_of HV.out.1
        have hbb : b < wr.heap.size := Nat.lt_of_lt_of_le hb HB.out.size
        have HST := Lib.hid hst
        have HMLN := Lib.hid hmln
        obtain ⟨R, hR⟩ : ∃ R, oneR s.1 e = R := ⟨_, rfl⟩
        obtain ⟨C, hC⟩ : ∃ C, oneC s.1 e = C := ⟨_, rfl⟩
        rw [hR, hC] at hcall
        have HR := Lib.hid hR
        have HCC := Lib.hid hC
        have HMY := Lib.hid hmy
        clear hc hLw hst hmy hmln he hone hjl hR hC
        obtain ⟨⟨ml, mr, mm, mf, ms⟩, mo⟩ := R
        obtain ⟨⟨⟨sl, sr, sm, sf, ss⟩, so⟩, hse⟩ : ∃ x, s = x := ⟨_, rfl⟩
        subst hse
        unfold ToldC bufV bval at hcall
        dsimp only at hcall x0 x1 x2 x3 x4
        obtain ⟨NM, hNM⟩ : ∃ N, ms.length = N := ⟨_, rfl⟩
        obtain ⟨NO, hNO⟩ : ∃ N, mo.length = N := ⟨_, rfl⟩
        obtain ⟨NS, hNS⟩ : ∃ N, ss.length = N := ⟨_, rfl⟩
        rw [hNM, hNO, hNS] at hcall
        rw [hNS] at x4
        have HC := Lib.hid hcall
        have HNM := Lib.hid hNM
        have HNO := Lib.hid hNO
        have HNS := Lib.hid hNS
        clear hcall hNM hNO hNS hs
        go_upto_region 6 with (fail)
        go_cut [11, 12, 13] from 21 to 41 (fun s11 s12 s13 wx => Laid 29 wr wx A1 s11 s12 s13 (⟨ml, mr, mm, mf, ms⟩, mo) C)
        case first =>
          go_region_law (go_simp; (with_reducible refine (HC.out _ (by first | exact (Below.refl _ wr).drew | exact ((Below.refl _ wr).alloc (Nat.le_refl _) _).drew)).mono ?_); rintro r w1 ⟨A2, c2, A3, c3, rfl, hv1, hv2, hb, hf1, hf2⟩; (try (have a2 := (hb.block wr.heap.size (by simp)).trans (heap_alloc_new wr _); obtain ⟨⟨u0, u1, u2, u3, u4⟩, fu⟩ := box5 a2; have lu := lt_of a2; have QA := Lib.hid a2; clear a2)); have HV1 := Lib.hid hv1; have HV2 := Lib.hid hv2; have HB1 := Lib.hid hb; have HF1 := Lib.hid hf1; have HF2 := Lib.hid hf2; clear hv1 hv2 hb hf1 hf2; dsimp only)
          all_goals
            go_wp2
            go_meet
            case rel =>
              rw [← HNM.out, ← HNO.out]
              first
                | (with_reducible refine laid_after (r := (⟨ml, mr, mm, mf, ms⟩, mo)) (T := 29) ?_ HB1.out HV1.out HV2.out HF1.out HF2.out)
                | (with_reducible refine laid_before (r := (⟨ml, mr, mm, mf, ms⟩, mo)) (T := 29) (by decide) ?_ (Nat.le_refl _) QA.out HB1.out HV1.out HV2.out HF1.out HF2.out)
              first
                | exact (Below.refl _ wr).drew
                | exact ((Below.refl _ wr).alloc (Nat.le_refl _) _).drew
        case rest =>
          obtain ⟨p, A2, c2, A3, c3, rfl, hp, hv1, rfl, hv2, rfl, hb1, hf1, hf2⟩ := hcut
          rename World => wx
          have hq := hv1.1
          dsimp only at hq
          rw [HNM.out] at hq
          obtain ⟨⟨y0, y1, y2, y3, y4⟩, fy⟩ := box5 hq
          have lp := lt_of hq
          have hv := (hb1.block _ (lt_of HV.out.1)).trans HV.out.1
          dsimp only at hv
          rw [HNS.out] at hv
          obtain ⟨⟨z0, z1, z2, z3, z4⟩, fz⟩ := box5 hv
          have lz := lt_of hv
          have hzz := (hb1.block _ (lt_of HZ.out)).trans HZ.out
          have HO1 := Lib.hid (own_below HO.out hb1)
          have HB1 := Lib.hid (thn HB.out hb1)
          have hst := HST.out
          unfold stepM at hst
          dsimp only at hst
          rw [HCC.out] at hst
          have hR := HR.out
          unfold oneR at hR
          rw [HCC.out] at hR
          by_cases hC : C = 0
          · rw [if_pos hC] at hst hR
            rw [hR] at hst
            dsimp only at hst
            have d : (C == 0) = true := by simpa using hC
            obtain ⟨W5, hW5, q5, g5⟩ := fin5 hv (.int .u64 (ml : Int)) (.int .i64 (mr : Int)) (.int .u64 (mm : Int)) (.int .u64 (mf : Int)) (.slice A2 NM c2)
            have ev5 := hv1.2.other g5 hv (by decide)
            have o5 : OwnE W5 w.heap.size u9 so := HO1.out.kept g5 (.inr (own_ne HO1.out hv (by decide)))
            have l5 := (hv2.other g5 hv (by decide)).lies
            have z5 := (g5.block _ (lt_of hzz) (by simp)).trans hzz
            have b5 := below_row HB1.out g5 (Nat.le_succ _)
            have of5 : Off A2 u9 := off_from (w := w) HO.out HOF.out hf1
            have hln : so.length + mo.length ≤ 10000000 := by have := HMLN.out; rw [hst] at this; dsimp only at this; rw [List.length_append] at this; omega
            have HW5 := Lib.hid hW5
            have Q5 := Lib.hid q5
            have EV5 := Lib.hid ev5
            have O5 := Lib.hid o5
            have L5 := Lib.hid l5
            have Z5 := Lib.hid z5
            have B5 := Lib.hid b5
            have OF5 := Lib.hid of5
            have HLN := Lib.hid hln
            have HS2 := Lib.hid hst
            rw [HNO.out] at L5
            clear hC hst hR hW5 q5 g5 ev5 o5 l5 z5 b5 of5 hln hv1 hv2 hq hv hzz hb1 hf1 hf2
            go_upto_region 9 with (fail)
            rw [HW5.out]
            go_wp2_with (at_builtin; refine wpList_app2 41 _ 24 info_event Try.underlying27 rfl (by decide) (by decide) _ rfl _ _ rfl w.heap.size _ _ so mo _ rfl O5.out rfl (by rw [HNO.out]; exact L5.out) (ev_one _) HLN.out B5.out.size ?_; intro v' w6 ho6 hg6 hat; have HO6 := Lib.hid ho6; have HG6 := Lib.hid hg6; have HAT := Lib.hid hat; clear ho6 hg6 hat)
            have hg6 : W5.grownBy w6 u9.ownBlock := HG6.out
            have hat : v'.ownBlock = u9.ownBlock ∨ v'.ownBlock = some W5.heap.size := HAT.out
            have q6 := (hg6.block _ (lt_of Q5.out) (Ne.symm (own_ne O5.out Q5.out (by decide)))).trans Q5.out
            have z6 := (hg6.block _ (lt_of Z5.out) (Ne.symm (own_ne O5.out Z5.out (by decide)))).trans Z5.out
            refine ⟨⟨j + 1, A2, c2, by go_num, hlt1, hlt2, Lib.hid ?_, Lib.hid ?_, Lib.hid (off_next OF5.out EV5.out hat), Lib.hid z6, Lib.hid (B5.out.grown hg6 B5.out.size (fun q hq => (O5.out.lt q hq).1))⟩, by simp [intOf]; omega⟩
            · rw [HS2.out]
              refine ⟨?_, off_row OF5.out EV5.out hg6⟩
              dsimp only
              rw [HNM.out]
              exact q6
            · rw [HS2.out]
              exact HO6.out
          · rw [if_neg hC] at hst hR
            have d : (C == 0) = false := by simpa using hC
            have vg := HV.out.grow hb1
            have VG := Lib.hid vg
            have OFF2 := Lib.hid HOF.out
            have HZ2 := Lib.hid hzz
            have HS2 := Lib.hid hst
            clear hC hst hR hv1 hv2 hq hv hzz hb1 hf1 hf2 vg
            go_wp2
            refine ⟨⟨j + 1, A1, c1, by go_num, hlt1, hlt2, Lib.hid ?_, Lib.hid ?_, OFF2, HZ2, HB1⟩, by simp [intOf]; omega⟩
            · rw [HS2.out]
              exact VG.out
            · rw [HS2.out]
              exact HO1.out
      · have ht : l.take j = l.take 40 := by
          rcases Nat.lt_or_ge j 40 with h | h
          · have e : j = n := by omega
            rw [List.take_of_length_le (by rw [HN.out]; omega), List.take_of_length_le (by rw [HN.out]; omega)]
          · have e : j = 40 := by omega
            rw [e]
        rw [ht] at HV HO
        obtain ⟨s, hs⟩ : ∃ s, madeM lt rm (l.take 40) = s := ⟨_, rfl⟩
        rw [hs] at HV HO
        have HS := Lib.hid hs
        obtain ⟨⟨⟨sl, sr, sm, sf, ss⟩, so⟩, hse⟩ : ∃ x, s = x := ⟨_, rfl⟩
        subst hse
        obtain ⟨NS, hNS⟩ : ∃ N, ss.length = N := ⟨_, rfl⟩
        have hv := HV.out.1
        dsimp only at hv
        rw [hNS] at hv
        obtain ⟨⟨x0, x1, x2, x3, x4⟩, fx⟩ := box5 hv
        have lv := lt_of hv
        obtain ⟨⟨z0, z1, z2, z3, z4⟩, fz⟩ := box5 HZ.out
        have lz := lt_of HZ.out
        obtain ⟨W5, hW5, q5, g5⟩ := fin5 HZ.out (.int .u64 (sl : Int)) (.int .i64 (sr : Int)) (.int .u64 (sm : Int)) (.int .u64 (sf : Int)) (.slice A1 NS c1)
        obtain ⟨⟨y0, y1, y2, y3, y4⟩, -⟩ := box5 q5
        have ev5 := HV.out.2.other g5 HZ.out (by decide)
        obtain ⟨A9, c9, rfl, -, -⟩ := own_form HO.out
        have eo : Evs wr A9 c9 so := Evs.of_own HO.out
        have eo5 := eo.other g5 HZ.out (by decide)
        have b5 := below_row HB.out g5 (Nat.le_refl _)
        have hltz : ¬ ((j : Int) < 40 ∧ (j : Int) < n) := by omega
        have Y := Lib.hid (And.intro y0 (And.intro y1 (And.intro y2 (And.intro y3 y4))))
        have HW5 := Lib.hid hW5
        have EV5 := Lib.hid ev5
        have EO5 := Lib.hid eo5
        have B5 := Lib.hid b5
        have HNS := Lib.hid hNS
        obtain ⟨NO, hNO⟩ : ∃ N, so.length = N := ⟨_, rfl⟩
        rw [hNO]
        have HNO := Lib.hid hNO
        clear hv q5 g5 ev5 eo eo5 b5 hs hW5 hNS hNO ht y0 y1 y2 y3 y4
        have hend : ∀ (v : Value), v = .tuple #[bval (sl : Int) (sr : Int) (sm : Int) (sf : Int) (.slice A1 NS c1), .slice A9 NO c9] → ∃ B1 d1 B2 d2, Ending.returned v = .returned (.tuple #[bufV (madeM lt rm (l.take 40)).1 B1 d1, .slice B2 (madeM lt rm (l.take 40)).2.length d2]) ∧
            Evs W5 B1 d1 (madeM lt rm (l.take 40)).1.evs ∧ Evs W5 B2 d2 (madeM lt rm (l.take 40)).2 ∧ Below w.heap.size w W5 := by
          rintro v rfl
          rw [HS.out]
          refine ⟨A1, c1, A9, c9, ?_, EV5.out, EO5.out, B5.out⟩
          show _ = Ending.returned (.tuple #[bval _ _ _ _ (.slice A1 ss.length c1), .slice A9 so.length c9])
          rw [HNS.out, HNO.out]
        have HEND := Lib.hid hend
        clear hend
        by_cases hj9 : j < 40
        · have hjn9 : ¬ j < n := by omega
          go_wp2
          rw [HW5.out]
          obtain ⟨y0, y1, y2, y3, y4⟩ := Y.out
          exact bodyPost_ret (v := .tuple #[bval (sl : Int) (sr : Int) (sm : Int) (sf : Int) (.slice A1 NS c1), .slice A9 NO c9]) (by simp [results, Try.results10, go_sem, y0, y1, y2, y3, y4]) rfl (HEND.out _ rfl)
        · go_wp2
          all_goals
            rw [HW5.out]
            obtain ⟨y0, y1, y2, y3, y4⟩ := Y.out
            exact bodyPost_ret (v := .tuple #[bval (sl : Int) (sr : Int) (sm : Int) (sf : Int) (.slice A1 NS c1), .slice A9 NO c9]) (by simp [results, Try.results10, go_sem, y0, y1, y2, y3, y4]) rfl (HEND.out _ rfl)
end Go.Proofs.Ythncmjimfkbofaa
end
section
/- The contracts of slices.Equal on events, and of the document's Events. -/
namespace Go.Proofs.Ythncmjimfkbofaa
set_option linter.unusedVariables false
open Go.RowKit Go.Shelf Go.Proofs.Rw Go.Proofs.Lh Go.Proofs.Bu

theorem ev_type : Try.prog.underlying 41 = some (.struct (Try.prog.fieldsOf 41)) := by kernel_rfl
theorem ev_held : Try.prog.stoodInHeld 41 = false := by kernel_rfl
theorem ev_eq (d : Nat) (a b c a' b' c' : Int) (w : World) : (Op.equalIn (d + 2) 41 (.agg #[.int .u64 a, .int .u64 b, .int .u64 c]) (.agg #[.int .u64 a', .int .u64 b', .int .u64 c'])).run Try.prog w = .ok (a == a' && (b == b' && c == c')) w := by
  rw [run_equalIn_agg w (d + 1) _ _ _ ev_type ev_held]
  simp [go_sem, Try.underlying41, Try.underlying22]
  by_cases h1 : a = a' <;> by_cases h2 : b = b' <;> by_cases h3 : c = c' <;> simp [h1, h2, h3]
theorem ev_neq (a b c a' b' c' : Int) (w : World) : (binOp .neq 41 (.agg #[.int .u64 a, .int .u64 b, .int .u64 c]) (.agg #[.int .u64 a', .int .u64 b', .int .u64 c'])).run Try.prog w = .ok (.bool (!(a == a' && (b == b' && c == c')))) w := by
  rw [run_neq_struct, show (10000 : Nat) = 9998 + 2 from rfl, ev_eq]
  rfl
theorem ev_guard (op : BinOp) (x y : Operand) (xs ys : Array Value) (w : World) : (eqGuard op 41 x y (.agg xs) (.agg ys)).run Try.prog w = .ok () w := run_eqGuard_agg w op _ x y xs ys (by kernel_rfl)
attribute [local go_sem] ev_neq ev_guard

set_option maxHeartbeats 1000000 in
theorem revs_any (xs ys : List Ev) (hl : xs.length ≤ 10000000) (w : World) (B : Nat) (hB : B ≤ w.heap.size) (A1 A2 : Option Addr) (c1 c2 : Nat) (h1 : Lies evL w B (.slice A1 xs.length c1) xs) (h2 : Lies evL w B (.slice A2 ys.length c2) ys) :
    Calls Try.prog 17 #[.slice A1 xs.length c1, .slice A2 ys.length c2] w fun e w' => e = .returned (.bool (decide (xs = ys))) ∧ Below w.heap.size w w' := by
  have H1 := Lib.hid h1
  have H2 := Lib.hid h2
  clear h1 h2
  by_cases hlen : xs.length = ys.length
  · obtain ⟨n, hn⟩ : ∃ n, xs.length = n := ⟨_, rfl⟩
    have HX := Lib.hid hn
    have HY := Lib.hid (hlen.symm.trans hn)
    have hnl : n ≤ 10000000 := by omega
    rw [← hlen, hn]
    clear hlen hn hl
    go_enter Try.func17, Try.ntmps17
    go_wp2
    go_loopw [5] (fun j wr => ∃ k : Nat, j = .int .i64 k ∧ k ≤ n ∧ xs.take k = ys.take k ∧ Below w.heap.size w wr) (fun j _ => n - (intOf j).toNat)
    case atStart => exact ⟨0, rfl, Nat.zero_le _, by simp, Below.refl _ _⟩
    case round =>
      obtain ⟨k, rfl, hk, htk, hbel⟩ := hrel
      by_cases hlt : k < n
      · have kx : k < xs.length := by rw [HX.out]; exact hlt
        have ky : k < ys.length := by rw [HY.out]; exact hlt
        have L1 := (H1.out.mono hB).below hbel
        have L2 := (H2.out.mono hB).below hbel
        rw [HX.out] at L1
        rw [HY.out] at L2
        obtain ⟨b1, o1, rfl, hb1, _, hc1⟩ := ev_at L1 (by omega)
        obtain ⟨b2, o2, rfl, hb2, _, hc2⟩ := ev_at L2 (by omega)
        obtain ⟨p0, p1, p2⟩ := hc1 k kx
        obtain ⟨q0, q1, q2⟩ := hc2 k ky
        have l1 : b1 < wr.heap.size := Nat.lt_of_lt_of_le hb1 hbel.size
        have l2 : b2 < wr.heap.size := Nat.lt_of_lt_of_le hb2 hbel.size
        have s1 : xs.take (k + 1) = xs.take k ++ [xs[k]] := List.take_succ_eq_append_getElem kx
        have s2 : ys.take (k + 1) = ys.take k ++ [ys[k]] := List.take_succ_eq_append_getElem ky
        have g1 : xs[k]? = some xs[k] := List.getElem?_eq_getElem kx
        have g2 : ys[k]? = some ys[k] := List.getElem?_eq_getElem ky
        generalize xs[k] = x at *
        generalize ys[k] = y at *
        obtain ⟨e1, d1⟩ : ∃ e, ((x.1 : Int) == (y.1 : Int)) = e := ⟨_, rfl⟩
        obtain ⟨e2, d2⟩ : ∃ e, ((x.2.1 : Int) == (y.2.1 : Int)) = e := ⟨_, rfl⟩
        obtain ⟨e3, d3⟩ : ∃ e, ((x.2.2 : Int) == (y.2.2 : Int)) = e := ⟨_, rfl⟩
        have hxy : (x = y) ↔ (e1 && (e2 && e3)) = true := by
          subst d1 d2 d3
          rw [Prod.ext_iff, Prod.ext_iff]
          simp
          omega
        have HXY := Lib.hid hxy
        have HB := Lib.hid hbel
        have HT := Lib.hid htk
        have S1 := Lib.hid s1
        have S2 := Lib.hid s2
        have G1 := Lib.hid g1
        have G2 := Lib.hid g2
        clear hbel hc1 hc2 htk s1 s2 g1 g2 L1 L2 hxy kx ky
        go_upto_region 6 with (fail)
        cases e1 <;> cases e2 <;> cases e3
        case true.true.true =>
          go_quiet (fail)
          go_wp2
          refine ⟨⟨k + 1, by go_num, hlt, ?_, below_drewN HB.out _⟩, by simp [intOf]; omega⟩
          rw [S1.out, S2.out, HT.out, HXY.out.2 rfl]
        all_goals
          go_quiet (fail)
          go_wp2
          go_ret
          refine ⟨ret_b ?_, below_drewN HB.out _⟩
          symm
          rw [decide_eq_false_iff_not]
          intro e
          have ge := G1.out
          rw [e, G2.out] at ge
          injection ge with ge
          have := HXY.out.1 ge.symm
          simp at this
      · have hx := HX.out
        have hy := HY.out
        have e : xs = ys := by
          rw [List.take_of_length_le (by omega), List.take_of_length_le (by omega)] at htk
          exact htk
        have HE := Lib.hid e
        clear htk hx hy e
        go_wp2
        go_ret
        exact ⟨ret_b (by simp [HE.out]), hbel⟩
  · have hne : xs ≠ ys := fun e => hlen (by rw [e])
    have hb : ((xs.length : Int) == (ys.length : Int)) = false := by rw [beq_eq_false_iff_ne]; omega
    have HN := Lib.hid hne
    clear hne hlen
    go_enter Try.func17, Try.ntmps17
    go_wp2
    go_ret
    exact ⟨ret_b (by simp [HN.out]), Below.refl _ _⟩

end Go.Proofs.Ythncmjimfkbofaa
end
