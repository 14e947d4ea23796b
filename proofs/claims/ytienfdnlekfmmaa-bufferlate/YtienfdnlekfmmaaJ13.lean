/- The contract of buffer.Push. · The contract of the document's split. · The contract of the document's settle. · The contracts of the document's Move, Push and of one deed. -/
import Derived.Test.YtienfdnlekfmmaaJ12
section
/- The contract of buffer.Push. -/
namespace Go.Proofs.Ytienfdnlekfmmaa
set_option linter.unusedVariables false
open Go.RowKit Go.Shelf Go.Proofs.Rw Go.Proofs.Lh Go.Proofs.Bu

theorem heap3v (w : World) (o0 o1 o2 : Obj) : ∃ W, W = ((w.alloc o0).alloc o1).alloc o2 ∧ W.heap.size = w.heap.size + 3 ∧ W.heap[w.heap.size]? = some o0 ∧ W.heap[w.heap.size + 1]? = some o1 ∧ W.heap[w.heap.size + 1 + 1]? = some o2 ∧ Below w.heap.size w W := by
  obtain ⟨W, h1, h2, h3, h4, h5⟩ := heap_two w o0 o1
  refine ⟨W.alloc o2, by rw [h1], by simp [h2], ?_, ?_, ?_, h5.alloc h5.size _⟩
  · rw [Below.heap_alloc _ _ _ (lt_of h3)]; exact h3
  · rw [Below.heap_alloc _ _ _ (lt_of h4)]; exact h4
  · have := World.alloc_heap_new W o2
    rw [h2] at this
    exact this
/-- An event as a value. -/
abbrev evV (e : Ev) : Value := .agg #[.int .u64 (e.1 : Int), .int .u64 (e.2.1 : Int), .int .u64 (e.2.2 : Int)]

/-- Why an event is refused; 0: it isn't. -/
def pushC (b : Bf) (e : Ev) : Int := if e.2.2 = 0 then 1 else if 9223372036854775807 < e.1 then 6 else if e.1 < b.front then 4 else 0

set_option maxRecDepth 100000 in
set_option maxHeartbeats 4000000 in
theorem bpush_bad (b : Bf) (e : Ev) (C : Int) (hC : pushC b e = C) (h0 : C ≠ 0) (w : World) (A : Option Addr) (c : Nat) :
    Calls Try.prog 15 #[bufV b A c, evV e] w fun r w' => r = .returned (badV C) ∧ Below w.heap.size w w' := by
  obtain ⟨late, room, mark, front, evs⟩ := b
  obtain ⟨t, k, n⟩ := e
  unfold bufV bval
  unfold pushC at hC
  dsimp only at hC ⊢
  obtain ⟨N, hN⟩ : ∃ N, evs.length = N := ⟨_, rfl⟩
  rw [hN]
  obtain ⟨W0, hW0, hsz, p0, p1, p2, b0⟩ := heap3v w (.cells #[.int .u64 (late : Int), .int .i64 (room : Int), .int .u64 (mark : Int), .int .u64 (front : Int), .slice A N c] 27) (.cells #[.int .u64 (t : Int), .int .u64 (k : Int), .int .u64 (n : Int)] 33) (.cells #[.int .u64 0, .int .i64 0, .int .u64 0, .int .u64 0, .slice none 0 0] 27)
  obtain ⟨⟨x0, x1, x2, x3, x4⟩, f1⟩ := box5 p2
  obtain ⟨⟨z0, z1, z2, z3, z4⟩, -⟩ := box5 p0
  obtain ⟨r0, r1, r2⟩ := box3 p1
  have l0 := lt_of p0
  have l1 := lt_of p1
  have l2 := lt_of p2
  obtain ⟨W5, hW5, q5, g5⟩ := fin5 p2 (.int .u64 0) (.int .i64 0) (.int .u64 0) (.int .u64 0) (.slice none 0 0)
  obtain ⟨⟨y0, y1, y2, y3, y4⟩, -⟩ := box5 q5
  have B5 := Lib.hid (below_row b0 g5 (by omega))
  have HW0 := Lib.hid hW0
  have HW5 := Lib.hid hW5
  have Y := Lib.hid (And.intro y0 (And.intro y1 (And.intro y2 (And.intro y3 y4))))
  clear hW0 hW5 p0 p1 p2 q5 g5 b0 hsz y0 y1 y2 y3 y4 hN
  by_cases hn : n = 0
  · rw [if_pos hn] at hC
    subst hC
    clear h0
    have hnz : ((n : Int) == 0) = true := by rw [hn]; rfl
    clear hn
    go_enter Try.func15, Try.ntmps15
    go_upto_region 1 with (fail)
    rw [← HW0.out]
    go_wp2
    rw [HW5.out]
    obtain ⟨y0, y1, y2, y3, y4⟩ := Y.out
    refine bodyPost_ret (v := badV 1) (by simp [results, Try.results15, go_sem, y0, y1, y2, y3, y4]) rfl ⟨rfl, B5.out⟩
  rw [if_neg hn] at hC
  have hnz : ((n : Int) == 0) = false := by rw [beq_eq_false_iff_ne]; omega
  by_cases ht : 9223372036854775807 < t
  · rw [if_pos ht] at hC
    subst hC
    clear h0
    go_enter Try.func15, Try.ntmps15
    go_upto_region 1 with (fail)
    rw [← HW0.out]
    go_wp2
    rw [HW5.out]
    obtain ⟨y0, y1, y2, y3, y4⟩ := Y.out
    refine bodyPost_ret (v := badV 6) (by simp [results, Try.results15, go_sem, y0, y1, y2, y3, y4]) rfl ⟨rfl, B5.out⟩
  rw [if_neg ht] at hC
  by_cases hf : t < front
  · rw [if_pos hf] at hC
    subst hC
    clear h0
    go_enter Try.func15, Try.ntmps15
    go_upto_region 1 with (fail)
    rw [← HW0.out]
    go_wp2
    rw [HW5.out]
    obtain ⟨y0, y1, y2, y3, y4⟩ := Y.out
    refine bodyPost_ret (v := badV 4) (by simp [results, Try.results15, go_sem, y0, y1, y2, y3, y4]) rfl ⟨rfl, B5.out⟩
  · rw [if_neg hf] at hC
    exact absurd hC.symm h0

set_option maxRecDepth 100000 in
set_option maxHeartbeats 4000000 in
theorem bpush_any (b : Bf) (hb : Okb b) (hlen : b.evs.length < 100000) (e : Ev) (hC : pushC b e = 0) (w : World) (A : Option Addr) (c : Nat) (hev : Evs w A c b.evs) :
    Calls Try.prog 15 #[bufV b A c, evV e] w fun r w' => Told w w' A r (pushB b e) := by
  have hpb : pushB b e = moveB { b with evs := insL e b.evs } e.1 := rfl
  rw [hpb]
  have hmax : e.1 ≤ 9223372036854775807 ∧ e.2.2 ≠ 0 ∧ ¬ e.1 < b.front := by
    unfold pushC at hC
    split at hC
    · cases hC
    split at hC
    · cases hC
    split at hC
    · cases hC
    · omega
  obtain ⟨ht, hn, hf⟩ := hmax
  have ok : Okb { b with evs := insL e b.evs } := ⟨hb.late, hb.room, hb.mark, hb.front, by dsimp only; rw [ins_len]; omega, hb.sd.ins e⟩
  have k1 := fun W (hW : Below w.heap.size w W) => put_any b.evs hb.sd (by have := hb.len; omega) e W A c (hev.grow hW).lies hev.fine
  have k2 := fun W A' c' h' => bmove_any { b with evs := insL e b.evs } ok e.1 ht W A' c' h'
  obtain ⟨M, hM⟩ : ∃ M, moveB { b with evs := insL e b.evs } e.1 = M := ⟨_, rfl⟩
  rw [hM] at k2 ⊢
  obtain ⟨R, hR⟩ : ∃ R, insL e b.evs = R := ⟨_, rfl⟩
  rw [hR] at k1 k2
  obtain ⟨late, room, mark, front, evs⟩ := b
  obtain ⟨t, k, n⟩ := e
  obtain ⟨⟨ml, mr, mm, mf, ms⟩, mo⟩ := M
  unfold bufV bval at k2 ⊢
  dsimp only at k1 k2 ht hn hf hev ⊢
  clear hM hR ok hb hlen hC hpb
  obtain ⟨N, hN⟩ : ∃ N, evs.length = N := ⟨_, rfl⟩
  obtain ⟨NR, hNR⟩ : ∃ N, R.length = N := ⟨_, rfl⟩
  rw [hN] at k1 ⊢
  rw [hNR] at k2
  obtain ⟨W0, hW0, hsz, p0, p1, p2, b0⟩ := heap3v w (.cells #[.int .u64 (late : Int), .int .i64 (room : Int), .int .u64 (mark : Int), .int .u64 (front : Int), .slice A N c] 27) (.cells #[.int .u64 (t : Int), .int .u64 (k : Int), .int .u64 (n : Int)] 33) (.cells #[.int .u64 0, .int .i64 0, .int .u64 0, .int .u64 0, .slice none 0 0] 27)
  obtain ⟨⟨z0, z1, z2, z3, z4⟩, f0⟩ := box5 p0
  obtain ⟨r0, r1, r2⟩ := box3 p1
  have l0 := lt_of p0
  have l1 := lt_of p1
  have l2 := lt_of p2
  have hnz : ((n : Int) == 0) = false := by rw [beq_eq_false_iff_ne]; omega
  have K1 := Lib.hid (k1 W0 b0)
  have K2 := Lib.hid k2
  have P0 := Lib.hid p0
  have P1 := Lib.hid p1
  have P2 := Lib.hid p2
  have B0 := Lib.hid b0
  have HW0 := Lib.hid hW0
  have HNR := Lib.hid hNR
  clear hW0 p0 p1 p2 b0 hsz k1 k2 hN hNR hev
  go_enter Try.func15, Try.ntmps15
  go_upto_region 1 with (fail)
  rw [← HW0.out]
  go_upto_region 8 with (go_at_call 32; (with_reducible refine K1.out.mono ?_); rintro r w1 ⟨v1, rfl, ho, hb⟩; obtain ⟨A1, c1, rfl, -, -⟩ := own_form ho; rw [HNR.out] at ho ⊢; have a0 := (hb.block _ l0).trans P0.out; have a1 := (hb.block _ l1).trans P1.out; have a2 := (hb.block _ l2).trans P2.out; have Q0 := Lib.hid a0; have Q1 := Lib.hid a1; have Q2 := Lib.hid a2; have B1 := Lib.hid (thn B0.out hb); have HO := Lib.hid ho; have lt1 := lt_of a0; obtain ⟨⟨u0, u1, u2, u3, u4⟩, f1⟩ := box5 a0; clear hb ho a0 a1 a2)
  obtain ⟨W2, hW2⟩ : ∃ W, w1.setCell ⟨w.heap.size, 4, none⟩ (.slice A1 NR c1) = W := ⟨_, rfl⟩
  have g0 : W2.heap[w.heap.size]? = some (.cells #[.int .u64 (late : Int), .int .i64 (room : Int), .int .u64 (mark : Int), .int .u64 (front : Int), .slice A1 NR c1] 27) := by rw [← hW2, heap_setCell_same _ _ 4 _ _ _ Q0.out]; rfl
  have g1 : W2.heap[w.heap.size + 1]? = some (.cells #[.int .u64 (t : Int), .int .u64 (k : Int), .int .u64 (n : Int)] 33) := by rw [← hW2, Below.heap_setCell _ _ _ _ (by simp)]; exact Q1.out
  have g2 : W2.heap[w.heap.size + 1 + 1]? = some (.cells #[.int .u64 0, .int .i64 0, .int .u64 0, .int .u64 0, .slice none 0 0] 27) := by rw [← hW2, Below.heap_setCell _ _ _ _ (by simp; omega)]; exact Q2.out
  have b2 : Below w.heap.size w W2 := by rw [← hW2]; exact B1.out.setCell (p := ⟨w.heap.size, 4, none⟩) (Nat.le_refl _) _
  have ev1 : Evs w1 A1 c1 R := Evs.of_own (n := NR) HO.out
  have HFR := Lib.hid (own_from (w := w) (A := A) HO.out B0.out.size)
  have ev2 : Evs W2 A1 c1 R := by rw [← hW2]; exact ev1.other (grown_set _ _ _ _) Q0.out (by decide)
  rw [hW2]
  have k2 := K2.out W2 A1 c1 ev2
  have K3 := Lib.hid k2
  obtain ⟨⟨v0, v1, v2, v3, v4⟩, -⟩ := box5 g0
  obtain ⟨s0, s1, s2⟩ := box3 g1
  have lt2 := lt_of g0
  have lt3 := lt_of g1
  have G2 := Lib.hid g2
  have B2 := Lib.hid b2
  clear hW2 g0 g1 g2 b2 ev1 ev2 k2 K1 K2 u0 u1 u2 u3 u4 f1 z0 z1 z2 z3 z4 f0 r0 r1 r2 Q0 Q1 Q2 B1 HO P0 P1 P2 B0
  unfold Told bufV bval at K3
  dsimp only at K3
  obtain ⟨NM, hNM⟩ : ∃ N, ms.length = N := ⟨_, rfl⟩
  obtain ⟨NO, hNO⟩ : ∃ N, mo.length = N := ⟨_, rfl⟩
  rw [hNM, hNO] at K3
  have HNM := Lib.hid hNM
  have HNO := Lib.hid hNO
  clear hNM hNO
  go_wp2_with (go_at_call 11; (with_reducible refine K3.out.mono ?_); rintro e w3 ⟨A2, c2, A3, c3, rfl, hv1, hv2, hb, hfr1, hfr2⟩; have a2 := (hb.block _ (lt_of G2.out)).trans G2.out; have Q2 := Lib.hid a2; have B3 := Lib.hid (thn B2.out hb); have HV1 := Lib.hid hv1; have HV2 := Lib.hid hv2; have lt4 := lt_of a2; obtain ⟨⟨u0, u1, u2, u3, u4⟩, f3⟩ := box5 a2; clear hb hv1 hv2 a2)
  obtain ⟨W5, hW5, q5, g5⟩ := fin5 Q2.out (.int .u64 (ml : Int)) (.int .i64 (mr : Int)) (.int .u64 (mm : Int)) (.int .u64 (mf : Int)) (.slice A2 NM c2)
  rw [hW5]
  obtain ⟨⟨y0, y1, y2, y3, y4⟩, -⟩ := box5 q5
  refine bodyPost_ret (v := .tuple #[bval (ml : Int) (mr : Int) (mm : Int) (mf : Int) (.slice A2 NM c2), .slice A3 NO c3, .int .i64 0]) (by simp [results, Try.results15, go_sem, y0, y1, y2, y3, y4]) rfl ⟨A2, c2, A3, c3, ?_, ?_, ?_, below_row B3.out g5 (by omega), hfr1.new B2.out.size HFR.out, hfr2.new B2.out.size HFR.out⟩
  · show _ = Ending.returned (.tuple #[bval _ _ _ _ (.slice A2 ms.length c2), .slice A3 mo.length c3, _])
    rw [HNM.out, HNO.out]
  · exact HV1.out.other g5 Q2.out (by decide)
  · exact HV2.out.other g5 Q2.out (by decide)
end Go.Proofs.Ytienfdnlekfmmaa
end
section
/- The contract of the document's split. -/
namespace Go.Proofs.Ytienfdnlekfmmaa
set_option linter.unusedVariables false
open Go.RowKit Go.Shelf Go.Proofs.Rw Go.Proofs.Lh Go.Proofs.Bu

theorem out_app (f : Nat) (a b : List Ev) : outL f (a ++ b) = outL f a ++ outL f b := List.filter_append ..
theorem stay_app (f : Nat) (a b : List Ev) : stayL f (a ++ b) = stayL f a ++ stayL f b := List.filter_append ..
theorem out_step {f : Nat} {l : List Ev} {j : Nat} (hj : j < l.length) (h : l[j].1 ≤ f) : outL f (l.take (j + 1)) = outL f (l.take j) ++ [l[j]] ∧ stayL f (l.take (j + 1)) = stayL f (l.take j) := by
  rw [List.take_succ_eq_append_getElem hj, out_app, stay_app]
  simp [Bu.outL, Bu.stayL, h]
theorem stay_step {f : Nat} {l : List Ev} {j : Nat} (hj : j < l.length) (h : ¬ l[j].1 ≤ f) : outL f (l.take (j + 1)) = outL f (l.take j) ∧ stayL f (l.take (j + 1)) = stayL f (l.take j) ++ [l[j]] := by
  rw [List.take_succ_eq_append_getElem hj, out_app, stay_app]
  have h2 : f < l[j].1 := by omega
  simp [Bu.outL, Bu.stayL, h, h2]
/-- Two rows of events of the call's own, not in one block. -/
def Two (w : World) (base : Nat) (v1 v2 : Value) (xs ys : List Ev) : Prop := OwnE w base v1 xs ∧ OwnE w base v2 ys ∧ (v1.ownBlock = none ∨ v1.ownBlock ≠ v2.ownBlock)
theorem Two.left {w w' : World} {base : Nat} {v1 v2 v1' : Value} {xs ys xs' : List Ev} (h : Two w base v1 v2 xs ys) (ho : OwnE w' base v1' xs') (hg : w.grownBy w' v1.ownBlock) (hat : v1'.ownBlock = v1.ownBlock ∨ v1'.ownBlock = some w.heap.size) : Two w' base v1' v2 xs' ys := by
  obtain ⟨h1, h2, h3⟩ := h
  have hne : v2.ownBlock = none ∨ v2.ownBlock ≠ v1.ownBlock := by
    rcases h3 with h3 | h3
    · rw [h3]
      cases v2.ownBlock <;> simp
    · exact .inr (Ne.symm h3)
  refine ⟨ho, h2.kept hg hne, ?_⟩
  rcases hat with e | e
  · rw [e]
    exact h3
  · refine .inr fun e2 => ?_
    rw [e] at e2
    have := (h2.lt _ e2.symm).2
    omega
theorem Two.swap {w : World} {base : Nat} {v1 v2 : Value} {xs ys : List Ev} (h : Two w base v1 v2 xs ys) : Two w base v2 v1 ys xs := by
  obtain ⟨h1, h2, h3⟩ := h
  refine ⟨h2, h1, ?_⟩
  rcases h3 with h3 | h3
  · rw [h3]
    cases v2.ownBlock <;> simp
  · exact .inr (Ne.symm h3)
theorem Two.alloc {w : World} {base : Nat} {v1 v2 : Value} {xs ys : List Ev} (h : Two w base v1 v2 xs ys) (o : Obj) : Two (w.alloc o) base v1 v2 xs ys := ⟨World.ownsRow.alloc h.1 o, World.ownsRow.alloc h.2.1 o, h.2.2⟩

set_option maxRecDepth 100000 in
set_option maxHeartbeats 4000000 in
theorem rsplit_any (l : List Ev) (hl : l.length ≤ 1000000) (f : Nat) (w : World) (A : Option Addr) (c : Nat) (h : Lies evL w w.heap.size (.slice A l.length c) l) :
    Calls Try.prog 33 #[.slice A l.length c, .int .u64 (f : Int)] w fun e w' => ∃ v1 v2, e = .returned (.tuple #[v1, v2]) ∧ Two w' w.heap.size v1 v2 (outL f l) (stayL f l) ∧ Below w.heap.size w w' := by
  obtain ⟨N, hN⟩ : ∃ N, l.length = N := ⟨_, rfl⟩
  have HL := Lib.hid h
  rw [hN] at HL hl ⊢
  have HN := Lib.hid hN
  have hcap : ∀ j, (outL f (l.take j)).length ≤ 1000000 ∧ (stayL f (l.take j)).length ≤ 1000000 := fun j => by
    have h1 := List.length_filter_le (fun e : Ev => decide (e.1 ≤ f)) (l.take j)
    have h2 := List.length_filter_le (fun e : Ev => decide (f < e.1)) (l.take j)
    have h3 : (l.take j).length ≤ l.length := by rw [List.length_take]; omega
    unfold Bu.outL Bu.stayL
    omega
  have HCAP := Lib.hid hcap
  clear h hN hcap
  go_enter Try.func33, Try.ntmps33
  go_wp2
  go_loopw [6, 7, 8] (fun s6 s7 s8 wr => ∃ j : Nat, s8 = .int .i64 (j : Int) ∧ j ≤ N ∧ Hid (Two wr w.heap.size s6 s7 (outL f (l.take j)) (stayL f (l.take j))) ∧ Hid (Below w.heap.size w wr)) (fun _ _ s8 _ => N - (intOf s8).toNat)
  case atStart => exact ⟨0, rfl, Nat.zero_le _, Lib.hid ⟨World.ownsRow_nil _ _ _ _, World.ownsRow_nil _ _ _ _, .inl rfl⟩, Lib.hid (Below.refl _ _)⟩
  case round =>
    obtain ⟨j, rfl, hj, HT, HB⟩ := hrel
    by_cases hlt : j < N
    · have hjl : j < l.length := by rw [HN.out]; exact hlt
      obtain ⟨b, off, rfl, hb, -, hc⟩ := ev_at (HL.out.below HB.out) (by omega)
      obtain ⟨q0, q1, q2⟩ := hc j hjl
      obtain ⟨hc1, hc2⟩ := HCAP.out j
      have hbb : b < wr.heap.size := Nat.lt_of_lt_of_le hb HB.out.size
      by_cases hle : l[j].1 ≤ f
      · obtain ⟨e1, e2⟩ := out_step hjl hle
        obtain ⟨x, hx⟩ : ∃ x, l[j] = x := ⟨_, rfl⟩
        obtain ⟨O, hO⟩ : ∃ O, outL f (l.take j) = O := ⟨_, rfl⟩
        rw [hx] at q0 q1 q2 hle e1
        rw [hO] at HT hc1 e1
        have E1 := Lib.hid e1
        have E2 := Lib.hid e2
        have HC1 := Lib.hid hc1
        clear hc e1 e2 hc1 hc2 hx hO hjl
        go_wp2_with (at_builtin; refine wpList_app2 33 _ 24 info_event Try.underlying25 rfl (by decide) (by decide) _ rfl _ _ rfl w.heap.size _ _ O [x] _ rfl (World.ownsRow.alloc HT.out.1 _) rfl (lit_ev _ _ _ rfl x) (ev_one _) (by have := HC1.out; simp; omega) (by have := HB.out.size; simp; omega) ?_; intro v' w3 ho3 hg3 hat; have HT3 := Lib.hid ((HT.out.alloc _).left ho3 hg3 hat); have HG := Lib.hid hg3; clear ho3 hg3 hat)
        refine ⟨⟨j + 1, by go_num, hlt, ?_, Lib.hid ((HB.out.alloc HB.out.size _).grown HG.out (by have := HB.out.size; simp; omega) (fun q hq => (HT.out.1.lt q hq).1))⟩, by simp [intOf]; omega⟩
        rw [E1.out, E2.out]
        exact HT3
      · obtain ⟨e1, e2⟩ := stay_step hjl hle
        obtain ⟨x, hx⟩ : ∃ x, l[j] = x := ⟨_, rfl⟩
        obtain ⟨O, hO⟩ : ∃ O, stayL f (l.take j) = O := ⟨_, rfl⟩
        rw [hx] at q0 q1 q2 hle e2
        rw [hO] at HT hc2 e2
        have E1 := Lib.hid e1
        have E2 := Lib.hid e2
        have HC1 := Lib.hid hc2
        clear hc e1 e2 hc1 hc2 hx hO hjl
        go_wp2_with (at_builtin; refine wpList_app2 33 _ 24 info_event Try.underlying25 rfl (by decide) (by decide) _ rfl _ _ rfl w.heap.size _ _ O [x] _ rfl (World.ownsRow.alloc HT.out.2.1 _) rfl (lit_ev _ _ _ rfl x) (ev_one _) (by have := HC1.out; simp; omega) (by have := HB.out.size; simp; omega) ?_; intro v' w3 ho3 hg3 hat; have HT3 := Lib.hid (((HT.out.alloc _).swap.left ho3 hg3 hat).swap); have HG := Lib.hid hg3; clear ho3 hg3 hat)
        refine ⟨⟨j + 1, by go_num, hlt, ?_, Lib.hid ((HB.out.alloc HB.out.size _).grown HG.out (by have := HB.out.size; simp; omega) (fun q hq => (HT.out.2.1.lt q hq).1))⟩, by simp [intOf]; omega⟩
        rw [E1.out, E2.out]
        exact HT3
    · have e : j = N := by omega
      subst e
      have ht : l.take j = l := List.take_of_length_le (by rw [HN.out]; exact Nat.le_refl _)
      rw [ht] at HT
      go_wp2
      refine bodyPost_ret (results_tmp2 (t := 4) (u := 5) rfl _ _ _) rfl ⟨_, _, rfl, HT.out, HB.out⟩
end Go.Proofs.Ytienfdnlekfmmaa
end
section
/- The contract of the document's settle. -/
namespace Go.Proofs.Ytienfdnlekfmmaa
set_option linter.unusedVariables false
open Go.RowKit Go.Shelf Go.Proofs.Rw Go.Proofs.Lh Go.Proofs.Bu

/-- A row of the call's own that another one's append doesn't reach. -/
theorem Evs.row {w w' : World} {A : Option Addr} {c : Nat} {xs : List Ev} {r : Option Nat} (h : Evs w A c xs) (hg : w.grownBy w' r) (hne : ∀ b, (Value.slice A xs.length c).ownBlock = some b → some b ≠ r) : Evs w' A c xs := by
  refine ⟨h.lies.off hg hne, h.fine, fun b off e => ?_⟩
  obtain ⟨cs, fr, hh⟩ := h.typed b off e
  exact ⟨cs, fr, (hg.block b (lt_of hh) (hne b (by rw [e]; rfl))).trans hh⟩

theorem own_ne {w : World} {base b : Nat} {v : Value} {xs : List Ev} {cs : Array Value} {T : TypeId} {fr : Nat × Nat} (h : OwnE w base v xs) (hb : w.heap[b]? = some (.cells cs T fr)) (hT : T ≠ 33) : v.ownBlock ≠ some b := by
  intro e
  rcases h.2 with ⟨rfl, _⟩ | ⟨g, cap, cur, rfl, _, hg, _⟩
  · cases e
  · have : g = b := by simpa [Value.ownBlock] using e
    rw [this, hb] at hg
    injection hg with hg
    injection hg with _ hg _
    exact hT hg
def lenS : Value → Nat
  | .slice _ n _ => n
  | _ => 0
/-- What stays, by the front, and by the events that are left. -/
theorem settle_round {room late mark front f : Nat} {l : List Ev} (h : Sd l) (h0 : max front (mark - late) ≤ f) (h1 : f ≤ frontB late room mark front l) (hm : room < (stayL f l).length) :
    ∃ (hp : 0 < (stayL f l).length), outL f l ++ outL ((stayL f l)[0]).1 (stayL f l) = outL ((stayL f l)[0]).1 l ∧ stayL ((stayL f l)[0]).1 (stayL f l) = stayL ((stayL f l)[0]).1 l ∧ (stayL ((stayL f l)[0]).1 l).length < (stayL f l).length ∧
      max front (mark - late) ≤ ((stayL f l)[0]).1 ∧ ((stayL f l)[0]).1 ≤ frontB late room mark front l := by
  obtain ⟨e, r, h2, h3, h4, h5, h6, h7⟩ := settle_step h hm
  refine ⟨by omega, ?_⟩
  have e0 : (stayL f l)[0]'(by omega) = e := by simp [h2]
  rw [e0]
  refine ⟨h5, h6, h7, by omega, ?_⟩
  unfold frontB
  omega

set_option maxRecDepth 100000 in
set_option maxHeartbeats 4000000 in
theorem rsettle_any (b : Bf) (hb : Okb b) (w : World) (A : Option Addr) (c : Nat) (hev : Evs w A c b.evs) :
    Calls Try.prog 31 #[bufV b A c] w fun e w' => ∃ A1 c1 A2 c2, e = .returned (.tuple #[bufV (settleB b).1 A1 c1, .slice A2 (settleB b).2.length c2]) ∧ Evs w' A1 c1 (settleB b).1.evs ∧ Evs w' A2 c2 (settleB b).2 ∧ Below w.heap.size w w' ∧ From w A A1 ∧ From w A A2 := by
  obtain ⟨late, room, mark, front, evs⟩ := b
  obtain ⟨hb1, hb2, hb3, hb4, hb5, hsd⟩ := hb
  unfold settleB
  dsimp only at hb1 hb2 hb3 hb4 hb5 hsd hev ⊢
  unfold bufV bval
  dsimp only
  obtain ⟨F, hF⟩ : ∃ F, frontB late room mark front evs = F := ⟨_, rfl⟩
  have hround := fun f h0 h1 hm => settle_round (room := room) (late := late) (mark := mark) (front := front) (f := f) hsd h0 h1 hm
  have hend := fun f h0 h1 hm => settle_end (room := room) (late := late) (mark := mark) (front := front) (f := f) hsd h0 h1 hm
  have hf0 : max front (mark - late) ≤ F := by rw [← hF]; unfold frontB; omega
  rw [hF] at hround hend ⊢
  obtain ⟨N, hN⟩ : ∃ N, evs.length = N := ⟨_, rfl⟩
  rw [hN]
  obtain ⟨f0, hf⟩ : ∃ f, max front (mark - late) = f := ⟨_, rfl⟩
  rw [hf] at hround hend hf0
  have hcap : ∀ f, (outL f evs).length ≤ 100000 ∧ (stayL f evs).length ≤ 100000 := fun f => by
    have h1 := List.length_filter_le (fun e : Ev => decide (e.1 ≤ f)) evs
    have h2 := List.length_filter_le (fun e : Ev => decide (f < e.1)) evs
    unfold Bu.outL Bu.stayL
    omega
  obtain ⟨W0, hW0, hsz, p0, p1, b0⟩ := heap_two w (.cells #[.int .u64 (late : Int), .int .i64 (room : Int), .int .u64 (mark : Int), .int .u64 (front : Int), .slice A N c] 31) (.cells #[.int .u64 0, .int .i64 0, .int .u64 0, .int .u64 0, .slice none 0 0] 31)
  have hsp := fun (l : List Ev) (hl : l.length ≤ 100000) (f : Nat) (W : World) (A' : Option Addr) (c' : Nat) (h : Lies evL W W.heap.size (.slice A' l.length c') l) => rsplit_any l (by omega) f W A' c' h
  have HSP := Lib.hid hsp
  have HRO := Lib.hid hround
  have HEN := Lib.hid hend
  have HCA := Lib.hid hcap
  have HW0 := Lib.hid hW0
  have P0 := Lib.hid p0
  have P1 := Lib.hid p1
  have B0 := Lib.hid b0
  have HEV := Lib.hid hev
  have HN := Lib.hid hN
  have HF0 := Lib.hid hf
  obtain ⟨⟨x0, x1, x2, x3, x4⟩, fz⟩ := box5 p0
  have l0 := lt_of p0
  clear hsp hround hend hcap hW0 p0 p1 b0 hev hN hf hsz hF
  go_enter Try.func31, Try.ntmps31
  go_upto_region 1 with (fail)
  rw [← HW0.out]
  obtain ⟨tp, htp⟩ : ∃ t, (decide (late ≤ mark) && decide (front < mark - late)) = t := ⟨_, rfl⟩
  have HTP := Lib.hid htp
  clear htp
  go_cut [22] from 8 to 22 (fun s22 wx => s22 = .bool tp ∧ W0 = wx)
  case first =>
    by_cases h1 : late ≤ mark
    · have hz1 : (late : Int) ≤ mark := by omega
      by_cases h2 : front < mark - late
      · have hz2 : (front : Int) < (mark : Int) - late := by omega
        go_wp2
        go_meet
        case rel => exact ⟨by rw [← HTP.out]; simp [h1, h2], rfl⟩
      · have hz2 : ¬ (front : Int) < (mark : Int) - late := by omega
        go_wp2
        go_meet
        case rel => exact ⟨by rw [← HTP.out]; simp [h1, h2], rfl⟩
    · have hz1 : ¬ (late : Int) ≤ mark := by omega
      go_wp2
      go_meet
      case rel => exact ⟨by rw [← HTP.out]; simp [h1], rfl⟩
  case rest =>
  obtain ⟨rfl, rfl⟩ := hcut
  go_upto_if 22 with (fail)
  go_cut [23] from 23 to 28 (fun _ wx => wx.heap[w.heap.size]? = some (.cells #[.int .u64 (late : Int), .int .i64 (room : Int), .int .u64 (mark : Int), .int .u64 (f0 : Int), .slice A N c] 31) ∧ wx.heap[w.heap.size + 1]? = some (.cells #[.int .u64 0, .int .i64 0, .int .u64 0, .int .u64 0, .slice none 0 0] 31) ∧ Below w.heap.size w wx)
  case first =>
    cases tp
    · have e : f0 = front := by have := HF0.out; have := HTP.out; simp at this; omega
      go_wp2
      go_meet
      case rel => exact ⟨by rw [e]; exact P0.out, P1.out, B0.out⟩
    · have htp := HTP.out
      simp at htp
      have e : f0 = mark - late := by have := HF0.out; omega
      obtain ⟨htp1, htp2⟩ := htp
      have ez : (mark : Int) - late = (f0 : Int) := by omega
      have hz1 : (late : Int) ≤ mark := by omega
      clear e htp1 htp2
      go_wp2
      go_meet
      case rel =>
        refine ⟨?_, ?_, ?_⟩
        · rw [heap_setCell_same _ _ 3 _ _ _ P0.out]
          first | rfl | (rw [ez]; rfl)
        · rw [Below.heap_setCell _ _ _ _ (by simp)]
          exact P1.out
        · exact B0.out.setCell (p := ⟨w.heap.size, 3, none⟩) (Nat.le_refl _) _
  case rest =>
    obtain ⟨q0, q1, b1⟩ := hcut
    obtain ⟨⟨y0, y1, y2, y3, y4⟩, fy⟩ := box5 q0
    have l1 := lt_of q0
    have ls := (HEV.out.grow b1).lies
    have hs0 := HSP.out evs hb5 f0 _ A c ls
    rw [HN.out] at hs0
    have HS0 := Lib.hid hs0
    have Q0 := Lib.hid q0
    have Q1 := Lib.hid q1
    have B1 := Lib.hid b1
    clear hs0 q0 q1 b1 ls x0 x1 x2 x3 x4 fz HW0 P0 P1 B0
    go_wp2_with (go_at_call 33; (with_reducible refine HS0.out.mono ?_); rintro e w2 ⟨v1, v2, rfl, ht, hb⟩; have HT := Lib.hid (show Two w2 w.heap.size v1 v2 (outL f0 evs) (stayL f0 evs) from ⟨own_le ht.1 B1.out.size, own_le ht.2.1 B1.out.size, ht.2.2⟩); have R0 := Lib.hid ((hb.block _ l1).trans Q0.out); have R1 := Lib.hid ((hb.block _ (lt_of Q1.out)).trans Q1.out); have B2 := Lib.hid (thn B1.out hb); clear ht hb)
    clear HS0 Q0 Q1 B1 y0 y1 y2 y3 y4 fy l1
    go_loopw [4, 5] (fun s4 s5 wr => ∃ f : Nat, f0 ≤ f ∧ f ≤ F ∧ Hid (wr.heap[w.heap.size]? = some (.cells #[.int .u64 (late : Int), .int .i64 (room : Int), .int .u64 (mark : Int), .int .u64 (f : Int), .slice A N c] 31)) ∧ Hid (wr.heap[w.heap.size + 1]? = some (.cells #[.int .u64 0, .int .i64 0, .int .u64 0, .int .u64 0, .slice none 0 0] 31)) ∧ Hid (Two wr w.heap.size s4 s5 (outL f evs) (stayL f evs)) ∧ Hid (Below w.heap.size w wr)) (fun _ s5 _ => lenS s5)
    case atStart => exact ⟨f0, Nat.le_refl _, hf0, R0, R1, HT, B2⟩
    case round =>
      obtain ⟨f, hff, hfF, P0, P1, HT, HB⟩ := hrel
      obtain ⟨A1, c1, rfl, -, -⟩ := own_form HT.out.1
      obtain ⟨A2, c2, rfl, hc2, hc3⟩ := own_form HT.out.2.1
      obtain ⟨⟨y0, y1, y2, y3, y4⟩, fy⟩ := box5 P0.out
      have l1 := lt_of P0.out
      obtain ⟨n2, hn2⟩ : ∃ n, (stayL f evs).length = n := ⟨_, rfl⟩
      obtain ⟨n1, hn1⟩ : ∃ n, (outL f evs).length = n := ⟨_, rfl⟩
      rw [hn1, hn2]
      have hcp := HCA.out f
      have hb2 : n2 ≤ 100000 := by omega
      by_cases hlt : room < n2
      · obtain ⟨hp, r1, r2, r3, r4, r5⟩ := HRO.out f hff hfF (by omega)
        have lies2 : Evs wr A2 c2 (stayL f evs) := Evs.of_own HT.out.2.1
        obtain ⟨g, off, rfl, hgb, -, hcell⟩ := ev_at lies2.lies hp
        obtain ⟨k0, k1, k2⟩ := hcell 0 hp
        obtain ⟨X, hX⟩ : ∃ X, stayL f evs = X := ⟨_, rfl⟩
        obtain ⟨O, hO⟩ : ∃ X, outL f evs = X := ⟨_, rfl⟩
        obtain ⟨x, hx⟩ : ∃ x, ((stayL f evs)[0]'hp).1 = x := ⟨_, rfl⟩
        rw [hx] at r1 r2 r3 r4 r5 k0
        rw [hX] at r1 r2 r3 lies2 HT hn2
        rw [hO] at r1 HT hn1
        rw [hn2] at r3
        rw [hn1, hn2] at HT
        simp only [Nat.zero_mul, Nat.add_zero] at k0
        obtain ⟨W2, hW2⟩ : ∃ W, wr.setCell ⟨w.heap.size, 3, none⟩ (.int .u64 (x : Int)) = W := ⟨_, rfl⟩
        have p0 : W2.heap[w.heap.size]? = some (.cells #[.int .u64 (late : Int), .int .i64 (room : Int), .int .u64 (mark : Int), .int .u64 (x : Int), .slice A N c] 31) := by rw [← hW2, heap_setCell_same _ _ 3 _ _ _ P0.out]; rfl
        have p1 : W2.heap[w.heap.size + 1]? = some (.cells #[.int .u64 0, .int .i64 0, .int .u64 0, .int .u64 0, .slice none 0 0] 31) := by rw [← hW2, Below.heap_setCell _ _ _ _ (by simp)]; exact P1.out
        have b2 : Below w.heap.size w W2 := by rw [← hW2]; exact HB.out.setCell (p := ⟨w.heap.size, 3, none⟩) (Nat.le_refl _) _
        have lies3 : Evs W2 (some ⟨g, off, none⟩) c2 X := by rw [← hW2]; exact lies2.other (grown_set _ _ _ _) P0.out (by decide)
        have o2 : OwnE W2 w.heap.size (.slice A1 n1 c1) O := by rw [← hW2]; exact HT.out.1.kept (grown_set _ _ _ _) (.inr (own_ne HT.out.1 P0.out (by decide)))
        have hs2 := HSP.out X (by omega) x W2 _ c2 lies3.lies
        rw [hn2] at hs2
        obtain ⟨⟨z0, z1, z2, z3, z4⟩, fz⟩ := box5 p0
        have l2 := lt_of p0
        have HS2 := Lib.hid hs2
        have G0 := Lib.hid p0
        have G1 := Lib.hid p1
        have B2 := Lib.hid b2
        have O2 := Lib.hid o2
        have HW2 := Lib.hid hW2
        have R1 := Lib.hid r1
        have R2 := Lib.hid r2
        have R3 := Lib.hid r3
        have cap2 := (HCA.out x).1
        have hOl : O.length + (outL x X).length ≤ 10000000 := by rw [← List.length_append, r1]; omega
        have HOL := Lib.hid hOl
        have hgs : g < wr.heap.size := hgb
        clear hs2 p0 p1 b2 o2 hW2 r1 r2 r3 hcell k1 k2 lies2 lies3 hX hO hx hp hcp hOl cap2
        go_upto_region 6 with (fail)
        rw [HW2.out]
        go_wp2_with (first
          | (go_at_call 33; (with_reducible refine HS2.out.mono ?_); rintro e w3 ⟨v6, v7, rfl, ht, hb⟩; have HT3 := Lib.hid ht; have HB3 := Lib.hid hb; have O3 := Lib.hid (own_below O2.out hb); have L6 := Lib.hid (Lies.of_own (L := evL) ht.1); clear ht hb)
          | (at_builtin; refine wpList_app2 33 _ 24 info_event Try.underlying25 rfl (by decide) (by decide) _ rfl _ _ rfl w.heap.size _ _ O (outL x X) _ rfl O3.out rfl L6.out (ev_one _) HOL.out (by have := B2.out.size; have := HB3.out.size; omega) ?_; intro v' w4 ho4 hg4 hat; have HO4 := Lib.hid ho4; have HG4 := Lib.hid hg4; have HAT := Lib.hid hat; clear ho4 hg4 hat))
        have hg4 : w3.grownBy w4 (Value.slice A1 n1 c1).ownBlock := HG4.out
        have n0 := own_ne O3.out ((HB3.out.block _ l2).trans G0.out) (by decide)
        have n1' := own_ne O3.out ((HB3.out.block _ (lt_of G1.out)).trans G1.out) (by decide)
        have tw : Two w3 w.heap.size (.slice A1 n1 c1) v7 O (stayL x X) := by
          refine ⟨O3.out, own_le HT3.out.2.1 B2.out.size, ?_⟩
          cases hq : (Value.slice A1 n1 c1).ownBlock with
          | none => exact .inl rfl
          | some q =>
            refine .inr fun e => ?_
            have h1 := (O2.out.lt q hq).2
            have h2 := (HT3.out.2.1.lt q e.symm).1
            omega
        have tw4 := tw.left HO4.out HG4.out HAT.out
        rw [R1.out, R2.out] at tw4
        obtain ⟨A7, c7, e7, -, -⟩ := own_form tw4.2.1
        refine ⟨⟨x, r4, r5, Lib.hid ?_, Lib.hid ?_, Lib.hid tw4, Lib.hid ?_⟩, ?_⟩
        · exact (hg4.block _ (Nat.lt_of_lt_of_le l2 HB3.out.size) (Ne.symm n0)).trans ((HB3.out.block _ l2).trans G0.out)
        · exact (hg4.block _ (Nat.lt_of_lt_of_le (lt_of G1.out) HB3.out.size) (Ne.symm n1')).trans ((HB3.out.block _ (lt_of G1.out)).trans G1.out)
        · exact (thn B2.out HB3.out).grown HG4.out (thn B2.out HB3.out).size (fun q hq => (O3.out.lt q hq).1)
        · rw [e7]
          exact R3.out
      · have e := HEN.out f hff hfF (by omega)
        have evo : Evs wr A1 c1 (outL f evs) := Evs.of_own HT.out.1
        have evst : Evs wr A2 c2 (stayL f evs) := Evs.of_own HT.out.2.1
        obtain ⟨W2, hW2⟩ : ∃ W, wr.setCell ⟨w.heap.size, 4, none⟩ (.slice A2 n2 c2) = W := ⟨_, rfl⟩
        have p0 : W2.heap[w.heap.size]? = some (.cells #[.int .u64 (late : Int), .int .i64 (room : Int), .int .u64 (mark : Int), .int .u64 (f : Int), .slice A2 n2 c2] 31) := by rw [← hW2, heap_setCell_same _ _ 4 _ _ _ P0.out]; rfl
        have p1 : W2.heap[w.heap.size + 1]? = some (.cells #[.int .u64 0, .int .i64 0, .int .u64 0, .int .u64 0, .slice none 0 0] 31) := by rw [← hW2, Below.heap_setCell _ _ _ _ (by simp)]; exact P1.out
        have b2 : Below w.heap.size w W2 := by rw [← hW2]; exact HB.out.setCell (p := ⟨w.heap.size, 4, none⟩) (Nat.le_refl _) _
        have evo2 : Evs W2 A1 c1 (outL f evs) := by rw [← hW2]; exact evo.other (grown_set _ _ _ _) P0.out (by decide)
        have evst2 : Evs W2 A2 c2 (stayL f evs) := by rw [← hW2]; exact evst.other (grown_set _ _ _ _) P0.out (by decide)
        obtain ⟨W5, hW5, q5, g5⟩ := fin5 p1 (.int .u64 (late : Int)) (.int .i64 (room : Int)) (.int .u64 (mark : Int)) (.int .u64 (f : Int)) (.slice A2 n2 c2)
        have evo5 := evo2.other g5 p1 (by decide)
        have evst5 := evst2.other g5 p1 (by decide)
        have B5 := Lib.hid (below_row b2 g5 (Nat.le_succ _))
        obtain ⟨⟨z0, z1, z2, z3, z4⟩, -⟩ := box5 p0
        obtain ⟨⟨x0, x1, x2, x3, x4⟩, fx⟩ := box5 p1
        obtain ⟨⟨v0, v1, v2, v3, v4⟩, -⟩ := box5 q5
        have l2 := lt_of p0
        have l3 := lt_of p1
        have HW2 := Lib.hid hW2
        have HW5 := Lib.hid hW5
        have EVO := Lib.hid evo5
        have EVS := Lib.hid evst5
        have HE := Lib.hid e
        have HN1 := Lib.hid hn1
        have HN2 := Lib.hid hn2
        have V := Lib.hid (And.intro v0 (And.intro v1 (And.intro v2 (And.intro v3 v4))))
        clear p0 p1 b2 hW2 hW5 q5 g5 evo evst evo2 evst2 evo5 evst5 e hn1 hn2 hcp v0 v1 v2 v3 v4
        go_upto_region 10 with (fail)
        rw [HW2.out]
        go_wp2
        rw [HW5.out]
        obtain ⟨v0, v1, v2, v3, v4⟩ := V.out
        refine bodyPost_ret (v := .tuple #[bval (late : Int) (room : Int) (mark : Int) (f : Int) (.slice A2 n2 c2), .slice A1 n1 c1]) (by simp [results, Try.results31, go_sem, v0, v1, v2, v3, v4]) rfl ⟨A2, c2, A1, c1, ?_, ?_, ?_, B5.out, own_from HT.out.2.1 (Nat.le_refl _), own_from HT.out.1 (Nat.le_refl _)⟩
        · rw [← HE.out, HN1.out, HN2.out]
        · rw [← HE.out]
          exact EVS.out
        · rw [← HE.out]
          exact EVO.out
end Go.Proofs.Ytienfdnlekfmmaa
end
section
/- The contracts of the document's Move, Push and of one deed. -/
namespace Go.Proofs.Ytienfdnlekfmmaa
set_option linter.unusedVariables false
open Go.RowKit Go.Shelf Go.Proofs.Rw Go.Proofs.Lh Go.Proofs.Bu

set_option maxRecDepth 100000 in
set_option maxHeartbeats 4000000 in
theorem rmove_bad (b : Bf) (t : Nat) (ht : 9223372036854775807 < t) (w : World) (A : Option Addr) (c : Nat) :
    Calls Try.prog 12 #[bufV b A c, .int .u64 (t : Int)] w fun e w' => e = .returned (badV 6) ∧ Below w.heap.size w w' := by
  obtain ⟨late, room, mark, front, evs⟩ := b
  unfold bufV bval
  dsimp only
  obtain ⟨N, hN⟩ : ∃ N, evs.length = N := ⟨_, rfl⟩
  rw [hN]
  obtain ⟨W0, hW0, hsz, p0, p1, b0⟩ := heap_two w (.cells #[.int .u64 (late : Int), .int .i64 (room : Int), .int .u64 (mark : Int), .int .u64 (front : Int), .slice A N c] 31) (.cells #[.int .u64 0, .int .i64 0, .int .u64 0, .int .u64 0, .slice none 0 0] 31)
  obtain ⟨⟨x0, x1, x2, x3, x4⟩, f1⟩ := box5 p1
  have l1 := lt_of p1
  obtain ⟨W5, hW5, q5, g5⟩ := fin5 p1 (.int .u64 0) (.int .i64 0) (.int .u64 0) (.int .u64 0) (.slice none 0 0)
  obtain ⟨⟨y0, y1, y2, y3, y4⟩, -⟩ := box5 q5
  have B5 := Lib.hid (below_row b0 g5 (Nat.le_succ _))
  have HW0 := Lib.hid hW0
  have HW5 := Lib.hid hW5
  have Y := Lib.hid (And.intro y0 (And.intro y1 (And.intro y2 (And.intro y3 y4))))
  clear hW0 hW5 p0 p1 q5 g5 b0 hsz y0 y1 y2 y3 y4 hN
  go_enter Try.func12, Try.ntmps12
  go_upto_region 1 with (fail)
  rw [← HW0.out]
  go_wp2
  rw [HW5.out]
  obtain ⟨y0, y1, y2, y3, y4⟩ := Y.out
  refine bodyPost_ret (v := badV 6) (by simp [results, Try.results12, go_sem, y0, y1, y2, y3, y4]) rfl ⟨rfl, B5.out⟩

set_option maxRecDepth 100000 in
set_option maxHeartbeats 4000000 in
theorem rmove_any (b : Bf) (hb : Okb b) (t : Nat) (ht : t ≤ 9223372036854775807) (w : World) (A : Option Addr) (c : Nat) (hev : Evs w A c b.evs) :
    Calls Try.prog 12 #[bufV b A c, .int .u64 (t : Int)] w fun e w' => Told w w' A e (moveB b t) := by
  obtain ⟨late, room, mark, front, evs⟩ := b
  obtain ⟨m, hm⟩ : ∃ m, max mark t = m := ⟨_, rfl⟩
  have hmv : moveB ⟨late, room, mark, front, evs⟩ t = settleB ⟨late, room, m, front, evs⟩ := by
    unfold moveB
    dsimp only
    rw [hm]
  rw [hmv]
  have ok2 : Okb ⟨late, room, m, front, evs⟩ := ⟨hb.late, hb.room, by have := hb.mark; dsimp only at this ⊢; omega, hb.front, hb.len, hb.sd⟩
  have k2 := fun W A' c' h' => rsettle_any ⟨late, room, m, front, evs⟩ ok2 W A' c' h'
  obtain ⟨M, hM⟩ : ∃ M, settleB ⟨late, room, m, front, evs⟩ = M := ⟨_, rfl⟩
  rw [hM] at k2 ⊢
  obtain ⟨⟨ml, mr, mm, mf, ms⟩, mo⟩ := M
  unfold Told
  unfold bufV bval at k2 ⊢
  dsimp only at k2 hev ⊢
  obtain ⟨N, hN⟩ : ∃ N, evs.length = N := ⟨_, rfl⟩
  obtain ⟨NM, hNM⟩ : ∃ N, ms.length = N := ⟨_, rfl⟩
  obtain ⟨NO, hNO⟩ : ∃ N, mo.length = N := ⟨_, rfl⟩
  rw [hN, hNM, hNO] at k2
  rw [hN, hNM, hNO]
  obtain ⟨W0, hW0, hsz, p0, p1, b0⟩ := heap_two w (.cells #[.int .u64 (late : Int), .int .i64 (room : Int), .int .u64 (mark : Int), .int .u64 (front : Int), .slice A N c] 31) (.cells #[.int .u64 0, .int .i64 0, .int .u64 0, .int .u64 0, .slice none 0 0] 31)
  obtain ⟨⟨x0, x1, x2, x3, x4⟩, f0⟩ := box5 p0
  have l0 := lt_of p0
  obtain ⟨W2, hW2⟩ : ∃ W, W0.setCell ⟨w.heap.size, 2, none⟩ (.int .u64 (m : Int)) = W := ⟨_, rfl⟩
  have g0 : W2.heap[w.heap.size]? = some (.cells #[.int .u64 (late : Int), .int .i64 (room : Int), .int .u64 (m : Int), .int .u64 (front : Int), .slice A N c] 31) := by rw [← hW2, heap_setCell_same _ _ 2 _ _ _ p0]; rfl
  have g1 : W2.heap[w.heap.size + 1]? = some (.cells #[.int .u64 0, .int .i64 0, .int .u64 0, .int .u64 0, .slice none 0 0] 31) := by rw [← hW2, Below.heap_setCell _ _ _ _ (by simp)]; exact p1
  have b2 : Below w.heap.size w W2 := by rw [← hW2]; exact b0.setCell (p := ⟨w.heap.size, 2, none⟩) (Nat.le_refl _) _
  have c2 := k2 W2 A c (hev.grow b2)
  obtain ⟨⟨z0, z1, z2, z3, z4⟩, -⟩ := box5 g0
  have lt2 := lt_of g0
  have hmz : (if mark < t then (t : Int) else (mark : Int)) = (m : Int) := by split <;> omega
  have HM := Lib.hid hmz
  have HW0 := Lib.hid hW0
  have HW2 := Lib.hid hW2
  have C2 := Lib.hid c2
  have G1 := Lib.hid g1
  have B2 := Lib.hid b2
  clear hW0 hW2 c2 k2 g0 g1 b2 hev p0 p1 b0 hsz hN hNM hNO hm hM hmv ok2 hb hmz
  go_enter Try.func12, Try.ntmps12
  go_upto_region 1 with (fail)
  rw [← HW0.out]
  go_upto_region 4 with (fail)
  rw [HM.out, HW2.out]
  go_upto_region 5 with (go_at_call 31; (with_reducible refine C2.out.mono ?_); rintro e w3 ⟨A2, c2, A3, c3, rfl, hv1, hv2, hb, hfr1, hfr2⟩; have Q2 := Lib.hid ((hb.block _ (lt_of G1.out)).trans G1.out); have B3 := Lib.hid (thn B2.out hb); have HV1 := Lib.hid hv1; have HV2 := Lib.hid hv2; clear hb hv1 hv2)
  obtain ⟨W4, hW4⟩ : ∃ W, w3.alloc (.cells #[.int .u64 (ml : Int), .int .i64 (mr : Int), .int .u64 (mm : Int), .int .u64 (mf : Int), .slice A2 NM c2] 31) = W := ⟨_, rfl⟩
  have b4 : Below w3.heap.size w3 W4 := by rw [← hW4]; exact (Below.refl _ w3).alloc (Nat.le_refl _) _
  have p4 : W4.heap[w3.heap.size]? = some (.cells #[.int .u64 (ml : Int), .int .i64 (mr : Int), .int .u64 (mm : Int), .int .u64 (mf : Int), .slice A2 NM c2] 31) := by rw [← hW4]; exact heap_alloc_new w3 _
  have p5 := (b4.block _ (lt_of Q2.out)).trans Q2.out
  rw [hW4]
  obtain ⟨W5, hW5, q5, g5⟩ := fin5 p5 (.int .u64 (ml : Int)) (.int .i64 (mr : Int)) (.int .u64 (mm : Int)) (.int .u64 (mf : Int)) (.slice A2 NM c2)
  have E1 := Lib.hid ((HV1.out.grow b4).other g5 p5 (by decide))
  have E2 := Lib.hid ((HV2.out.grow b4).other g5 p5 (by decide))
  have B5 := Lib.hid (below_row (thn B3.out b4) g5 (Nat.le_succ _))
  obtain ⟨⟨y0, y1, y2, y3, y4⟩, -⟩ := box5 p4
  obtain ⟨⟨x0, x1, x2, x3, x4⟩, fx⟩ := box5 p5
  obtain ⟨⟨v0, v1, v2, v3, v4⟩, -⟩ := box5 q5
  have l4 := lt_of p4
  have l5 := lt_of p5
  have HW5 := Lib.hid hW5
  have V := Lib.hid (And.intro v0 (And.intro v1 (And.intro v2 (And.intro v3 v4))))
  clear hW4 hW5 b4 p4 p5 q5 g5 v0 v1 v2 v3 v4 z0 z1 z2 z3 z4
  go_wp2
  rw [HW5.out]
  obtain ⟨v0, v1, v2, v3, v4⟩ := V.out
  exact bodyPost_ret (v := .tuple #[bval (ml : Int) (mr : Int) (mm : Int) (mf : Int) (.slice A2 NM c2), .slice A3 NO c3, .int .i64 0]) (by simp [results, Try.results12, go_sem, v0, v1, v2, v3, v4]) rfl ⟨A2, c2, A3, c3, rfl, E1.out, E2.out, B5.out, hfr1.new B2.out.size (fun b off e => .inr ⟨off, e⟩), hfr2.new B2.out.size (fun b off e => .inr ⟨off, e⟩)⟩

set_option maxRecDepth 100000 in
set_option maxHeartbeats 4000000 in
theorem rpush_bad (b : Bf) (e : Ev) (C : Int) (hC : pushC b e = C) (h0 : C ≠ 0) (w : World) (A : Option Addr) (c : Nat) :
    Calls Try.prog 16 #[bufV b A c, evV e] w fun r w' => r = .returned (badV C) ∧ Below w.heap.size w w' := by
  obtain ⟨late, room, mark, front, evs⟩ := b
  obtain ⟨t, k, n⟩ := e
  unfold bufV bval
  unfold pushC at hC
  dsimp only at hC ⊢
  obtain ⟨N, hN⟩ : ∃ N, evs.length = N := ⟨_, rfl⟩
  rw [hN]
  obtain ⟨W0, hW0, hsz, p0, p1, p2, b0⟩ := heap3v w (.cells #[.int .u64 (late : Int), .int .i64 (room : Int), .int .u64 (mark : Int), .int .u64 (front : Int), .slice A N c] 31) (.cells #[.int .u64 (t : Int), .int .u64 (k : Int), .int .u64 (n : Int)] 33) (.cells #[.int .u64 0, .int .i64 0, .int .u64 0, .int .u64 0, .slice none 0 0] 31)
  obtain ⟨⟨x0, x1, x2, x3, x4⟩, f1⟩ := box5 p2
  obtain ⟨⟨z0, z1, z2, z3, z4⟩, -⟩ := box5 p0
  obtain ⟨r0, r1, r2⟩ := box3 p1
  have l0 := lt_of p0
  have l1 := lt_of p1
  have l2 := lt_of p2
  obtain ⟨W5, hW5, q5, g5⟩ := fin5 p2 (.int .u64 0) (.int .i64 0) (.int .u64 0) (.int .u64 0) (.slice none 0 0)
  obtain ⟨⟨y0, y1, y2, y3, y4⟩, -⟩ := box5 q5
  have B5 := Lib.hid (below_row b0 g5 (by omega))
  have HW0 := Lib.hid hW0
  have HW5 := Lib.hid hW5
  have Y := Lib.hid (And.intro y0 (And.intro y1 (And.intro y2 (And.intro y3 y4))))
  clear hW0 hW5 p0 p1 p2 q5 g5 b0 hsz y0 y1 y2 y3 y4 hN
  by_cases hn : n = 0
  · rw [if_pos hn] at hC
    subst hC
    clear h0
    have hnz : ((n : Int) == 0) = true := by rw [hn]; rfl
    clear hn
    go_enter Try.func16, Try.ntmps16
    go_upto_region 1 with (fail)
    rw [← HW0.out]
    go_wp2
    rw [HW5.out]
    obtain ⟨y0, y1, y2, y3, y4⟩ := Y.out
    refine bodyPost_ret (v := badV 1) (by simp [results, Try.results16, go_sem, y0, y1, y2, y3, y4]) rfl ⟨rfl, B5.out⟩
  rw [if_neg hn] at hC
  have hnz : ((n : Int) == 0) = false := by rw [beq_eq_false_iff_ne]; omega
  by_cases ht : 9223372036854775807 < t
  · rw [if_pos ht] at hC
    subst hC
    clear h0
    go_enter Try.func16, Try.ntmps16
    go_upto_region 1 with (fail)
    rw [← HW0.out]
    go_wp2
    rw [HW5.out]
    obtain ⟨y0, y1, y2, y3, y4⟩ := Y.out
    refine bodyPost_ret (v := badV 6) (by simp [results, Try.results16, go_sem, y0, y1, y2, y3, y4]) rfl ⟨rfl, B5.out⟩
  rw [if_neg ht] at hC
  by_cases hf : t < front
  · rw [if_pos hf] at hC
    subst hC
    clear h0
    go_enter Try.func16, Try.ntmps16
    go_upto_region 1 with (fail)
    rw [← HW0.out]
    go_wp2
    rw [HW5.out]
    obtain ⟨y0, y1, y2, y3, y4⟩ := Y.out
    refine bodyPost_ret (v := badV 4) (by simp [results, Try.results16, go_sem, y0, y1, y2, y3, y4]) rfl ⟨rfl, B5.out⟩
  · rw [if_neg hf] at hC
    exact absurd hC.symm h0

set_option maxRecDepth 100000 in
set_option maxHeartbeats 4000000 in
theorem rpush_any (b : Bf) (hb : Okb b) (hlen : b.evs.length < 100000) (e : Ev) (hC : pushC b e = 0) (w : World) (A : Option Addr) (c : Nat) (hev : Evs w A c b.evs) :
    Calls Try.prog 16 #[bufV b A c, evV e] w fun r w' => Told w w' A r (pushB b e) := by
  have hmax : e.1 ≤ 9223372036854775807 ∧ e.2.2 ≠ 0 ∧ ¬ e.1 < b.front := by
    unfold pushC at hC
    split at hC
    · cases hC
    split at hC
    · cases hC
    split at hC
    · cases hC
    · omega
  obtain ⟨ht, hn, hf⟩ := hmax
  obtain ⟨m, hm⟩ : ∃ m, max b.mark e.1 = m := ⟨_, rfl⟩
  have ok : Okb { b with mark := m, evs := insL e b.evs } := ⟨hb.late, hb.room, by have := hb.mark; dsimp only; omega, hb.front, by dsimp only; rw [ins_len]; omega, hb.sd.ins e⟩
  have k1 := fun W (hW : Below w.heap.size w W) => rsplit_any b.evs (by have := hb.len; omega) e.1 W A c (hev.grow hW).lies
  have k2 := fun W A' c' h' => rsettle_any { b with mark := m, evs := insL e b.evs } ok W A' c' h'
  have hpb : pushB b e = settleB { b with mark := m, evs := insL e b.evs } := by unfold pushB; rw [hm]
  rw [hpb]
  obtain ⟨M, hM⟩ : ∃ M, settleB { b with mark := m, evs := insL e b.evs } = M := ⟨_, rfl⟩
  rw [hM] at k2 ⊢
  have hins : insL e b.evs = ([] ++ outL e.1 b.evs ++ [e]) ++ stayL e.1 b.evs := by unfold insL; simp
  have hpl := len_parts hb.sd e.1
  obtain ⟨R, hR⟩ : ∃ R, insL e b.evs = R := ⟨_, rfl⟩
  rw [hR] at k2 hins
  obtain ⟨O, hO⟩ : ∃ R, outL e.1 b.evs = R := ⟨_, rfl⟩
  obtain ⟨S, hS⟩ : ∃ R, stayL e.1 b.evs = R := ⟨_, rfl⟩
  rw [hO, hS] at k1 hins hpl
  obtain ⟨late, room, mark, front, evs⟩ := b
  obtain ⟨⟨ml, mr, mm, mf, ms⟩, mo⟩ := M
  obtain ⟨t, k, n⟩ := e
  unfold Told
  unfold bufV bval at k2 ⊢
  dsimp only at k1 k2 ht hn hf hev hm hlen hpl ⊢
  clear hM hR ok hb hC hpb hO hS
  obtain ⟨N, hN⟩ : ∃ N, evs.length = N := ⟨_, rfl⟩
  obtain ⟨NR, hNR⟩ : ∃ N, R.length = N := ⟨_, rfl⟩
  obtain ⟨NM, hNM⟩ : ∃ N, ms.length = N := ⟨_, rfl⟩
  obtain ⟨NO, hNO⟩ : ∃ N, mo.length = N := ⟨_, rfl⟩
  rw [hN] at k1 hpl hlen
  rw [hNR, hNM, hNO] at k2
  rw [hN, hNM, hNO]
  obtain ⟨W0, hW0, hsz, p0, p1, p2, b0⟩ := heap3v w (.cells #[.int .u64 (late : Int), .int .i64 (room : Int), .int .u64 (mark : Int), .int .u64 (front : Int), .slice A N c] 31) (.cells #[.int .u64 (t : Int), .int .u64 (k : Int), .int .u64 (n : Int)] 33) (.cells #[.int .u64 0, .int .i64 0, .int .u64 0, .int .u64 0, .slice none 0 0] 31)
  obtain ⟨⟨z0, z1, z2, z3, z4⟩, f0⟩ := box5 p0
  obtain ⟨r0, r1, r2⟩ := box3 p1
  have l0 := lt_of p0
  have l1 := lt_of p1
  have l2 := lt_of p2
  have hnz : ((n : Int) == 0) = false := by rw [beq_eq_false_iff_ne]; omega
  obtain ⟨W1, hW1⟩ : ∃ W, W0.setCell ⟨w.heap.size, 2, none⟩ (.int .u64 (m : Int)) = W := ⟨_, rfl⟩
  have g0 : W1.heap[w.heap.size]? = some (.cells #[.int .u64 (late : Int), .int .i64 (room : Int), .int .u64 (m : Int), .int .u64 (front : Int), .slice A N c] 31) := by rw [← hW1, heap_setCell_same _ _ 2 _ _ _ p0]; rfl
  have g1 : W1.heap[w.heap.size + 1]? = some (.cells #[.int .u64 (t : Int), .int .u64 (k : Int), .int .u64 (n : Int)] 33) := by rw [← hW1, Below.heap_setCell _ _ _ _ (by simp)]; exact p1
  have g2 : W1.heap[w.heap.size + 1 + 1]? = some (.cells #[.int .u64 0, .int .i64 0, .int .u64 0, .int .u64 0, .slice none 0 0] 31) := by rw [← hW1, Below.heap_setCell _ _ _ _ (by simp; omega)]; exact p2
  have b1 : Below w.heap.size w W1 := by rw [← hW1]; exact b0.setCell (p := ⟨w.heap.size, 2, none⟩) (Nat.le_refl _) _
  have hmz : (if mark < t then (t : Int) else (mark : Int)) = (m : Int) := by split <;> omega
  obtain ⟨⟨y0, y1, y2, y3, y4⟩, -⟩ := box5 g0
  obtain ⟨s0, s1, s2⟩ := box3 g1
  have m0 := lt_of g0
  have m1 := lt_of g1
  have K1 := Lib.hid (k1 W1 b1)
  have K2 := Lib.hid k2
  have G0 := Lib.hid g0
  have G1 := Lib.hid g1
  have G2 := Lib.hid g2
  have B1 := Lib.hid b1
  have HW0 := Lib.hid hW0
  have HW1 := Lib.hid hW1
  have HM := Lib.hid hmz
  have HINS := Lib.hid hins
  have HPL := Lib.hid hpl
  have HNR := Lib.hid hNR
  clear hW0 hW1 p0 p1 p2 b0 b1 g0 g1 g2 hsz k1 k2 hN hNR hNM hNO hev hm hmz hins hpl
  go_enter Try.func16, Try.ntmps16
  go_upto_region 1 with (fail)
  rw [← HW0.out]
  go_upto_region 8 with (fail)
  rw [HM.out, HW1.out]
  go_upto_region 9 with (go_at_call 33; (with_reducible refine K1.out.mono ?_); rintro e w2 ⟨v1, v2, rfl, ht, hb⟩; have HT := Lib.hid ht; have Q0 := Lib.hid ((hb.block _ m0).trans G0.out); have Q1 := Lib.hid ((hb.block _ m1).trans G1.out); have Q2 := Lib.hid ((hb.block _ (lt_of G2.out)).trans G2.out); have B2 := Lib.hid (thn B1.out hb); obtain ⟨q0, q1, q2⟩ := box3 Q1.out; have l3 := lt_of Q1.out; have L1 := Lib.hid (Lies.of_own (L := evL) ht.1); have hb1 := hb.size; clear ht hb)
  have L2 := Lib.hid (Lies.of_own (L := evL) HT.out.2.1)
  have hc1 : ([] : List Ev).length + O.length ≤ 10000000 := by have := HPL.out; simp; omega
  have hc2 : ([] ++ O).length + [(t, k, n)].length ≤ 10000000 := by have := HPL.out; simp; omega
  have hc3 : ([] ++ O ++ [(t, k, n)]).length + S.length ≤ 10000000 := by have := HPL.out; simp; omega
  have HC1 := Lib.hid hc1
  have HC2 := Lib.hid hc2
  have HC3 := Lib.hid hc3
  clear hc1 hc2 hc3
  go_upto_region 10 with (at_builtin; refine wpList_app2 33 _ 24 info_event Try.underlying25 rfl (by decide) (by decide) _ rfl _ _ rfl w2.heap.size _ _ [] O _ rfl (own_new (L := evL) w2 33 #[] 0 w2.heap.size [] rfl rfl (Nat.le_refl _) (by unfold maxLen; omega)) rfl (L1.out.alloc (Nat.le_refl _) _) (ev_one _) HC1.out (by simp) ?_; intro v3 w3 o3 g3 a3; have O3 := Lib.hid o3; have b3 := ((Below.refl w2.heap.size w2).alloc (Nat.le_refl _) (.cells #[] 33)).grown g3 (by simp) (fun q hq => ((own_new (L := evL) w2 33 #[] 0 w2.heap.size [] rfl rfl (Nat.le_refl _) (by unfold maxLen; omega)).lt q hq).1); have B3 := Lib.hid b3; have X1 := Lib.hid ((b3.block _ l3).trans Q1.out); obtain ⟨d0, d1, d2⟩ := box3 X1.out; have l4 := lt_of X1.out; clear o3 g3 a3 b3)
  clear q0 q1 q2
  go_upto_region 11 with (at_builtin; refine wpList_app2 33 _ 24 info_event Try.underlying25 rfl (by decide) (by decide) _ rfl _ _ rfl w2.heap.size _ _ ([] ++ O) [(t, k, n)] _ rfl (World.ownsRow.alloc O3.out _) rfl (lit_ev _ _ _ rfl (t, k, n)) (ev_one _) HC2.out (by have := B3.out.size; simp; omega) ?_; intro v4 w4 o4 g4 a4; have O4 := Lib.hid o4; have b4 := (B3.out.alloc B3.out.size _).grown g4 (by have := B3.out.size; simp; omega) (fun q hq => (O3.out.lt q hq).1); have B4 := Lib.hid b4; clear o4 g4 a4 b4)
  go_upto_region 12 with (at_builtin; refine wpList_app2 33 _ 24 info_event Try.underlying25 rfl (by decide) (by decide) _ rfl _ _ rfl w2.heap.size _ _ ([] ++ O ++ [(t, k, n)]) S _ rfl O4.out rfl (L2.out.below B4.out) (ev_one _) HC3.out B4.out.size ?_; intro v5 w5 o5 g5 a5; have O5 := Lib.hid o5; have b5 := B4.out.grown g5 B4.out.size (fun q hq => (O4.out.lt q hq).1); have B5 := Lib.hid b5; clear o5 g5 a5 b5)
  have o5 := O5.out
  rw [← HINS.out] at o5
  obtain ⟨A5, c5, rfl, -, -⟩ := own_form o5
  rw [HNR.out] at o5 ⊢
  have HFR := Lib.hid (own_from (w := w) (A := A) o5 B2.out.size)
  have ev5 : Evs w5 A5 c5 R := Evs.of_own (n := NR) (by rw [HNR.out]; exact o5)
  have z0' := (B5.out.block _ (lt_of Q0.out)).trans Q0.out
  have z2' := (B5.out.block _ (lt_of Q2.out)).trans Q2.out
  obtain ⟨⟨u0, u1, u2, u3, u4⟩, fu⟩ := box5 z0'
  have lu := lt_of z0'
  obtain ⟨W6, hW6⟩ : ∃ W, w5.setCell ⟨w.heap.size, 4, none⟩ (.slice A5 NR c5) = W := ⟨_, rfl⟩
  have g0 : W6.heap[w.heap.size]? = some (.cells #[.int .u64 (late : Int), .int .i64 (room : Int), .int .u64 (m : Int), .int .u64 (front : Int), .slice A5 NR c5] 31) := by rw [← hW6, heap_setCell_same _ _ 4 _ _ _ z0']; rfl
  have g2 : W6.heap[w.heap.size + 1 + 1]? = some (.cells #[.int .u64 0, .int .i64 0, .int .u64 0, .int .u64 0, .slice none 0 0] 31) := by rw [← hW6, Below.heap_setCell _ _ _ _ (by simp; omega)]; exact z2'
  have b6 : Below w.heap.size w W6 := by rw [← hW6]; exact (thn B2.out B5.out).setCell (p := ⟨w.heap.size, 4, none⟩) (Nat.le_refl _) _
  have ev6 : Evs W6 A5 c5 R := by rw [← hW6]; exact ev5.other (grown_set _ _ _ _) z0' (by decide)
  have k6 := K2.out W6 A5 c5 ev6
  obtain ⟨⟨v0, v1, v2, v3, v4⟩, -⟩ := box5 g0
  have lt6 := lt_of g0
  have K6 := Lib.hid k6
  have G6 := Lib.hid g2
  have B6 := Lib.hid b6
  have HW6 := Lib.hid hW6
  clear hW6 g0 g2 b6 ev5 ev6 k6 z0' z2' o5 d0 d1 d2 s0 s1 s2 y0 y1 y2 y3 y4 z0 z1 z2 z3 z4 r0 r1 r2 K1 K2
  go_upto_region 13 with (fail)
  rw [HW6.out]
  go_upto_region 14 with (go_at_call 31; (with_reducible refine K6.out.mono ?_); rintro e w3 ⟨A2, c2, A3, c3, rfl, hv1, hv2, hb, hfr1, hfr2⟩; have Q2 := Lib.hid ((hb.block _ (lt_of G6.out)).trans G6.out); have B3 := Lib.hid (thn B6.out hb); have HV1 := Lib.hid hv1; have HV2 := Lib.hid hv2; clear hb hv1 hv2)
  obtain ⟨W4, hW4⟩ : ∃ W, w3.alloc (.cells #[.int .u64 (ml : Int), .int .i64 (mr : Int), .int .u64 (mm : Int), .int .u64 (mf : Int), .slice A2 NM c2] 31) = W := ⟨_, rfl⟩
  have b4 : Below w3.heap.size w3 W4 := by rw [← hW4]; exact (Below.refl _ w3).alloc (Nat.le_refl _) _
  have p4 : W4.heap[w3.heap.size]? = some (.cells #[.int .u64 (ml : Int), .int .i64 (mr : Int), .int .u64 (mm : Int), .int .u64 (mf : Int), .slice A2 NM c2] 31) := by rw [← hW4]; exact heap_alloc_new w3 _
  have p5 := (b4.block _ (lt_of Q2.out)).trans Q2.out
  rw [hW4]
  obtain ⟨W5, hW5, q5, g5⟩ := fin5 p5 (.int .u64 (ml : Int)) (.int .i64 (mr : Int)) (.int .u64 (mm : Int)) (.int .u64 (mf : Int)) (.slice A2 NM c2)
  have E1 := Lib.hid ((HV1.out.grow b4).other g5 p5 (by decide))
  have E2 := Lib.hid ((HV2.out.grow b4).other g5 p5 (by decide))
  have B5 := Lib.hid (below_row (thn B3.out b4) g5 (by omega))
  obtain ⟨⟨y0, y1, y2, y3, y4⟩, -⟩ := box5 p4
  obtain ⟨⟨x0, x1, x2, x3, x4⟩, fx⟩ := box5 p5
  obtain ⟨⟨v0, v1, v2, v3, v4⟩, -⟩ := box5 q5
  have l4 := lt_of p4
  have l5 := lt_of p5
  have HW5 := Lib.hid hW5
  have V := Lib.hid (And.intro v0 (And.intro v1 (And.intro v2 (And.intro v3 v4))))
  clear hW4 hW5 b4 p4 p5 q5 g5 v0 v1 v2 v3 v4
  go_wp2
  rw [HW5.out]
  obtain ⟨v0, v1, v2, v3, v4⟩ := V.out
  exact bodyPost_ret (v := .tuple #[bval (ml : Int) (mr : Int) (mm : Int) (mf : Int) (.slice A2 NM c2), .slice A3 NO c3, .int .i64 0]) (by simp [results, Try.results16, go_sem, v0, v1, v2, v3, v4]) rfl ⟨A2, c2, A3, c3, rfl, E1.out, E2.out, B5.out, hfr1.new B6.out.size HFR.out, hfr2.new B6.out.size HFR.out⟩

/-- What is told of a deed. -/
def oneC (b : Bf) (e : Ev) : Int := if e.2.2 = 0 then (if 9223372036854775807 < e.1 then 6 else 0) else pushC b e
def oneB (b : Bf) (e : Ev) : Bf × List Ev := if e.2.2 = 0 then moveB b e.1 else pushB b e
end Go.Proofs.Ytienfdnlekfmmaa
end
