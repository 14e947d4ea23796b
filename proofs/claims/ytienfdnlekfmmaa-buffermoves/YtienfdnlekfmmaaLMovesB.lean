/-
  'skylight/skylightlaw12.BufferMoves' returns true for every input, and the input reads afterwards as it read before. Conditions: none.
-/
import Derived.Test.YtienfdnlekfmmaaRows
import Derived.WalkKit
import Derived.ProofKit
import Derived.OpenShut
import Derived.ShutString
import Derived.ChangeOld
import Derived.Below
import Derived.Test.YtienfdnlekfmmaaJ01
import Derived.Test.YtienfdnlekfmmaaJ16
namespace Go.Proofs.Ytienfdnlekfmmaa.bufferMoves
open Go.Proofs Go.Proofs.Op Go.Proofs.Rw Go.Proofs.Lm Go.Proofs.Lh Go.Proofs.Rn Go.Proofs.Rf Go.Proofs.Bu
open Go.ChangeShapes Go.WideShapes Go.ChangeAt Go.RowKit
open Go.ChangeMaps (open_string shut_string)
set_option linter.unusedVariables false

theorem own : ownKnob Try.prog.godebug = none := by kernel_rfl
theorem laidOut : laidOutB Try.prog = true := by kernel_rfl

/-- A slice of integers that came in: nil, or a row of cells of its capacity, each fitting its kind. -/
def IsRow (k : IntKind) (w : World) (a : Option Addr) (len cap : Nat) (zs : List Int) : Prop :=
  (a = none ∧ len = 0 ∧ cap = 0 ∧ zs = []) ∨
  ∃ x, a = some x ∧ len ≤ cap ∧ cap ≤ maxLen ∧ zs.length = cap ∧ (∀ i, i < zs.length → w.cell? (x.add i) = some (.int k (zs.getD i 0))) ∧ ∀ n ∈ zs, (Lit.int k n).wf = true

theorem fit2_of {c : List Value} (h : Op.Fits [.u64, .u64] c) : ∃ x0 x1 : Int, c = [.int .u64 x0, .int .u64 x1] ∧ (Lit.int .u64 x0).wf = true ∧ (Lit.int .u64 x1).wf = true := by
  cases c with
  | nil => exact h.elim
  | cons y0 c =>
  have g0 := h.1
  replace h := h.2
  cases c with
  | nil => exact h.elim
  | cons y1 c =>
  have g1 := h.1
  replace h := h.2
  cases c with
  | cons y c => exact h.elim
  | nil =>
  obtain ⟨x0, e0, e0w⟩ := g0
  obtain ⟨x1, e1, e1w⟩ := g1
  exact ⟨x0, x1, by rw [e0, e1], e0w, e1w⟩

open Go.RowKit Go.Shelf Go.Proofs.Rw Go.Proofs.Lh Go.Proofs.Bu
set_option linter.unusedVariables false

set_option maxRecDepth 100000 in
set_option maxHeartbeats 4000000 in
theorem walk (a0 : Int) (a1 : Option Addr) (len1 cap1 : Nat) (z1 : Nat → Nat → Int) (a2_0 a2_1 : Int) (w : World) (w0 : (Lit.int .u64 a0).wf = true) (w1 : Op.FlatRow [.u64, .u64, .u64] w a1 len1 cap1 z1) (w2_0 : (Lit.int .u64 a2_0).wf = true) (w2_1 : (Lit.int .u64 a2_1).wf = true) :
    Calls Try.prog 7 #[.int .u64 a0, .slice a1 len1 cap1, .agg #[.int .u64 a2_0, .int .u64 a2_1]] w fun e w' => e = .returned (.bool true) ∧ Below w.heap.size w w' := by
  obtain ⟨b0, b1⟩ := bounds_u64 w0
  obtain ⟨t0, t1⟩ := bounds_u64 w2_0
  obtain ⟨t2, t3⟩ := bounds_u64 w2_1
  obtain ⟨l, hll, hl, hfit⟩ := ev_of_row w1
  clear w0 w1 w2_0 w2_1
  obtain ⟨a, ha⟩ : ∃ a : Nat, a2_0 % 4611686018427387904 = (a : Int) := ⟨(a2_0 % 4611686018427387904).toNat, by omega⟩
  obtain ⟨c, hc⟩ : ∃ a : Nat, a2_1 % 4611686018427387904 = (a : Int) := ⟨(a2_1 % 4611686018427387904).toNat, by omega⟩
  obtain ⟨d, hd⟩ : ∃ d, max a c = d := ⟨_, rfl⟩
  have hdz : (if a < c then (c : Int) else (a : Int)) = (d : Int) := by split <;> omega
  have km := fun (W : World) (hW : Below w.heap.size w W) => bmade_any a0 40 b0 (by omega) (by decide) (by decide) l hfit W a1 len1 cap1 hll (hl.grow hW)
  have hmay := made_may (late := lateOf a0) (room := roomOf2 40) (by have := lateOf_eq a0 b0; omega) (by have := roomOf2_le 40; omega) (by have := roomOf2_le 40; omega) (l.take 40)
  obtain ⟨⟨x, ox⟩, hs⟩ : ∃ s, madeM (lateOf a0) (roomOf2 40) (l.take 40) = s := ⟨_, rfl⟩
  rw [hs] at hmay
  simp only [hs, bufV, bval] at km
  dsimp only at hmay km
  have hmay1 := hmay.move (t := a) (by omega)
  have hmm := move_move hmay a c
  rw [hd] at hmm
  have k1 := fun W A c' h => bmove_c x (may_ok hmay) a W A c' h
  have k3 := fun W A c' h => bmove_c x (may_ok hmay) d W A c' h
  have k2 := fun W A c' h => bmove_c (moveB x a).1 (may_ok hmay1) c W A c' h
  have hfew : x.evs.length ≤ 1024 := by have := hmay.few; have := hmay.room; omega
  have hsd := hmay.sd
  simp only [ToldC, bufV, bval, moveR, moveC_yes (show a ≤ 9223372036854775807 by omega), moveC_yes (show c ≤ 9223372036854775807 by omega), moveC_yes (show d ≤ 9223372036854775807 by omega), if_true] at k1 k2 k3
  have hlen : (moveB x a).1.evs.length + (moveB x a).2.length ≤ 1024 ∧ (moveB (moveB x a).1 c).1.evs.length + (moveB (moveB x a).1 c).2.length ≤ 1024 := by
    have h1 := len_parts hsd (frontB x.late x.room (max x.mark a) x.front x.evs)
    have h2 := len_parts hmay1.sd (frontB (moveB x a).1.late (moveB x a).1.room (max (moveB x a).1.mark c) (moveB x a).1.front (moveB x a).1.evs)
    unfold moveB settleB at *
    dsimp only at *
    omega
  obtain ⟨⟨y, oy⟩, hy⟩ : ∃ s, moveB x a = s := ⟨_, rfl⟩
  rw [hy] at k1 k2 hmm hlen
  dsimp only at k1 k2 hmm hlen
  obtain ⟨⟨z, oz⟩, hz⟩ : ∃ s, moveB y c = s := ⟨_, rfl⟩
  rw [hz] at k2 hmm hlen
  obtain ⟨⟨v, ov⟩, hv⟩ : ∃ s, moveB x d = s := ⟨_, rfl⟩
  rw [hv] at k3 hmm
  dsimp only at k2 k3 hmm hlen
  obtain ⟨hm1, hm2⟩ := hmm
  subst hm1
  obtain ⟨L, hL⟩ : ∃ L, oy ++ oz = L := ⟨_, rfl⟩
  have hov : ov = L := by rw [← hL, hm2]
  subst hov
  clear hm2
  have HL := Lib.hid hL
  have KM := Lib.hid km
  have K1 := Lib.hid k1
  have K2 := Lib.hid k2
  have K3 := Lib.hid k3
  have HLEN := Lib.hid hlen
  have HA := Lib.hid ha
  have HC := Lib.hid hc
  have HD := Lib.hid hdz
  clear hL km hl hfit hs hll hmay hmay1 k1 k2 k3 hlen ha hc hdz hd hsd hy hz hv hfew
  obtain ⟨W0, hW0⟩ : ∃ W, w.alloc (.cells #[.int .u64 a2_0, .int .u64 a2_1] 59) = W := ⟨_, rfl⟩
  have p0 : W0.heap[w.heap.size]? = some (.cells #[.int .u64 a2_0, .int .u64 a2_1] 59) := by rw [← hW0]; exact heap_alloc_new w _
  have b0' : Below w.heap.size w W0 := by rw [← hW0]; exact (Below.refl _ w).alloc (Nat.le_refl _) _
  have Pt := Lib.hid p0
  have HB := Lib.hid b0'
  have HW0 := Lib.hid hW0
  clear p0 b0' hW0
  go_enter Try.func7, Try.ntmps7
  go_upto_region 1 with (fail)
  rw [HW0.out]
  go_upto_region 3 with (first
    | (go_at_call 9; (with_reducible refine (bawake_any _).mono ?_); rintro e w1 ⟨rfl, hb⟩; replace Pt := Lib.hid ((hb.block _ (lt_of Pt.out)).trans Pt.out); replace HB := Lib.hid (thn HB.out hb); clear hb)
    | (go_at_call 25; (with_reducible refine (KM.out _ HB.out).mono ?_); rintro e w2 ⟨A1, c1, A2, c2, rfl, h1, h2, hb⟩; replace Pt := Lib.hid ((hb.block _ (lt_of Pt.out)).trans Pt.out); replace HB := Lib.hid (thn HB.out hb); have Ex := Lib.hid h1; clear h1 h2 hb))
  obtain ⟨wx, hwx⟩ : ∃ W, w2.alloc (.cells #[.int .u64 (x.late : Int), .int .i64 (x.room : Int), .int .u64 (x.mark : Int), .int .u64 (x.front : Int), .slice A1 x.evs.length c1] 31) = W := ⟨_, rfl⟩
  have hb : Below w2.heap.size w2 wx := by rw [← hwx]; exact (Below.refl _ w2).alloc (Nat.le_refl _) _
  have hp : wx.heap[w2.heap.size]? = some (.cells #[.int .u64 (x.late : Int), .int .i64 (x.room : Int), .int .u64 (x.mark : Int), .int .u64 (x.front : Int), .slice A1 x.evs.length c1] 31) := by rw [← hwx]; exact heap_alloc_new w2 _
  rw [hwx]
  obtain ⟨qx, hqx⟩ : ∃ q, w2.heap.size = q := ⟨_, rfl⟩
  rw [hqx] at hp ⊢
  have Px := Lib.hid hp
  replace Pt := Lib.hid ((hb.block _ (lt_of Pt.out)).trans Pt.out)
  replace Ex := Lib.hid (Ex.out.grow hb)
  replace HB := Lib.hid (thn HB.out hb)
  clear hwx hp hqx hb
  obtain ⟨s0, s1, -, -⟩ := box2 Pt.out
  have sl := lt_of Pt.out
  go_upto_region 5 with (fail)
  rw [HA.out, HC.out]
  clear s0 s1 sl
  obtain ⟨⟨x0, x1, x2, x3, x4⟩, xf⟩ := box5 Px.out
  have xl := lt_of Px.out
  go_upto_region 6 with (first
    | (go_at_call 21; (with_reducible refine (lmadeB_any _ _ _ _ _ ⟨_, _, _, rfl⟩ _).mono ?_); rintro e w3 ⟨rfl, hb⟩; replace Pt := Lib.hid ((hb.block _ (lt_of Pt.out)).trans Pt.out); replace Px := Lib.hid ((hb.block _ (lt_of Px.out)).trans Px.out); replace Ex := Lib.hid (Ex.out.grow hb); replace HB := Lib.hid (thn HB.out hb); clear hb)
    | (go_at_call 11; (with_reducible refine (K1.out _ _ _ Ex.out).mono ?_); rintro e w4 ⟨A3, c3, A4, c4, rfl, h1, h2, hb, -, -⟩; replace Pt := Lib.hid ((hb.block _ (lt_of Pt.out)).trans Pt.out); replace Px := Lib.hid ((hb.block _ (lt_of Px.out)).trans Px.out); replace Ex := Lib.hid (Ex.out.grow hb); replace HB := Lib.hid (thn HB.out hb); have Ey := Lib.hid h1; have Ef := Lib.hid h2; clear h1 h2 hb))
  clear x0 x1 x2 x3 x4 xf xl
  obtain ⟨wy, hwy⟩ : ∃ W, w4.alloc (.cells #[.int .u64 (y.late : Int), .int .i64 (y.room : Int), .int .u64 (y.mark : Int), .int .u64 (y.front : Int), .slice A3 y.evs.length c3] 27) = W := ⟨_, rfl⟩
  have hb : Below w4.heap.size w4 wy := by rw [← hwy]; exact (Below.refl _ w4).alloc (Nat.le_refl _) _
  have hp : wy.heap[w4.heap.size]? = some (.cells #[.int .u64 (y.late : Int), .int .i64 (y.room : Int), .int .u64 (y.mark : Int), .int .u64 (y.front : Int), .slice A3 y.evs.length c3] 27) := by rw [← hwy]; exact heap_alloc_new w4 _
  rw [hwy]
  obtain ⟨qy, hqy⟩ : ∃ q, w4.heap.size = q := ⟨_, rfl⟩
  rw [hqy] at hp ⊢
  have Py := Lib.hid hp
  replace Pt := Lib.hid ((hb.block _ (lt_of Pt.out)).trans Pt.out)
  replace Px := Lib.hid ((hb.block _ (lt_of Px.out)).trans Px.out)
  replace Ex := Lib.hid (Ex.out.grow hb)
  replace Ey := Lib.hid (Ey.out.grow hb)
  replace Ef := Lib.hid (Ef.out.grow hb)
  replace HB := Lib.hid (thn HB.out hb)
  clear hwy hp hqy hb
  obtain ⟨⟨y0, y1, y2, y3, y4⟩, yf⟩ := box5 Py.out
  have yl := lt_of Py.out
  go_upto_region 7 with (go_at_call 11; (with_reducible refine (K2.out _ _ _ Ey.out).mono ?_); rintro e w5 ⟨A5, c5, A6, c6, rfl, h1, h2, hb, -, -⟩; replace Pt := Lib.hid ((hb.block _ (lt_of Pt.out)).trans Pt.out); replace Px := Lib.hid ((hb.block _ (lt_of Px.out)).trans Px.out); replace Py := Lib.hid ((hb.block _ (lt_of Py.out)).trans Py.out); replace Ex := Lib.hid (Ex.out.grow hb); replace Ey := Lib.hid (Ey.out.grow hb); replace Ef := Lib.hid (Ef.out.grow hb); replace HB := Lib.hid (thn HB.out hb); have Ez := Lib.hid h1; have Eg := Lib.hid h2; clear h1 h2 hb)
  clear y0 y1 y2 y3 y4 yf yl
  obtain ⟨wz, hwz⟩ : ∃ W, w5.alloc (.cells #[.int .u64 (z.late : Int), .int .i64 (z.room : Int), .int .u64 (z.mark : Int), .int .u64 (z.front : Int), .slice A5 z.evs.length c5] 27) = W := ⟨_, rfl⟩
  have hb : Below w5.heap.size w5 wz := by rw [← hwz]; exact (Below.refl _ w5).alloc (Nat.le_refl _) _
  have hp : wz.heap[w5.heap.size]? = some (.cells #[.int .u64 (z.late : Int), .int .i64 (z.room : Int), .int .u64 (z.mark : Int), .int .u64 (z.front : Int), .slice A5 z.evs.length c5] 27) := by rw [← hwz]; exact heap_alloc_new w5 _
  rw [hwz]
  obtain ⟨qz, hqz⟩ : ∃ q, w5.heap.size = q := ⟨_, rfl⟩
  rw [hqz] at hp ⊢
  have Pz := Lib.hid hp
  replace Pt := Lib.hid ((hb.block _ (lt_of Pt.out)).trans Pt.out)
  replace Px := Lib.hid ((hb.block _ (lt_of Px.out)).trans Px.out)
  replace Py := Lib.hid ((hb.block _ (lt_of Py.out)).trans Py.out)
  replace Ex := Lib.hid (Ex.out.grow hb)
  replace Ey := Lib.hid (Ey.out.grow hb)
  replace Ef := Lib.hid (Ef.out.grow hb)
  replace Ez := Lib.hid (Ez.out.grow hb)
  replace Eg := Lib.hid (Eg.out.grow hb)
  replace HB := Lib.hid (thn HB.out hb)
  clear hwz hp hqz hb
  obtain ⟨⟨x0, x1, x2, x3, x4⟩, xf⟩ := box5 Px.out
  have xl := lt_of Px.out
  go_upto_region 8 with (first
    | (go_at_call 21; (with_reducible refine (lmadeB_any _ _ _ _ _ ⟨_, _, _, rfl⟩ _).mono ?_); rintro e w6 ⟨rfl, hb⟩; replace Pt := Lib.hid ((hb.block _ (lt_of Pt.out)).trans Pt.out); replace Px := Lib.hid ((hb.block _ (lt_of Px.out)).trans Px.out); replace Py := Lib.hid ((hb.block _ (lt_of Py.out)).trans Py.out); replace Pz := Lib.hid ((hb.block _ (lt_of Pz.out)).trans Pz.out); replace Ex := Lib.hid (Ex.out.grow hb); replace Ey := Lib.hid (Ey.out.grow hb); replace Ef := Lib.hid (Ef.out.grow hb); replace Ez := Lib.hid (Ez.out.grow hb); replace Eg := Lib.hid (Eg.out.grow hb); replace HB := Lib.hid (thn HB.out hb); clear hb)
    | (rw [HD.out]; go_at_call 11; (with_reducible refine (K3.out _ _ _ Ex.out).mono ?_); rintro e w7 ⟨A7, c7, A8, c8, rfl, h1, h2, hb, -, -⟩; replace Pt := Lib.hid ((hb.block _ (lt_of Pt.out)).trans Pt.out); replace Px := Lib.hid ((hb.block _ (lt_of Px.out)).trans Px.out); replace Py := Lib.hid ((hb.block _ (lt_of Py.out)).trans Py.out); replace Pz := Lib.hid ((hb.block _ (lt_of Pz.out)).trans Pz.out); replace Ex := Lib.hid (Ex.out.grow hb); replace Ey := Lib.hid (Ey.out.grow hb); replace Ef := Lib.hid (Ef.out.grow hb); replace Ez := Lib.hid (Ez.out.grow hb); replace Eg := Lib.hid (Eg.out.grow hb); replace HB := Lib.hid (thn HB.out hb); have En := Lib.hid h1; have Eh := Lib.hid h2; clear h1 h2 hb))
  obtain ⟨wn, hwn⟩ : ∃ W, w7.alloc (.cells #[.int .u64 (z.late : Int), .int .i64 (z.room : Int), .int .u64 (z.mark : Int), .int .u64 (z.front : Int), .slice A7 z.evs.length c7] 27) = W := ⟨_, rfl⟩
  have hb : Below w7.heap.size w7 wn := by rw [← hwn]; exact (Below.refl _ w7).alloc (Nat.le_refl _) _
  have hp : wn.heap[w7.heap.size]? = some (.cells #[.int .u64 (z.late : Int), .int .i64 (z.room : Int), .int .u64 (z.mark : Int), .int .u64 (z.front : Int), .slice A7 z.evs.length c7] 27) := by rw [← hwn]; exact heap_alloc_new w7 _
  rw [hwn]
  obtain ⟨qn, hqn⟩ : ∃ q, w7.heap.size = q := ⟨_, rfl⟩
  rw [hqn] at hp ⊢
  have Pn := Lib.hid hp
  replace Pt := Lib.hid ((hb.block _ (lt_of Pt.out)).trans Pt.out)
  replace Px := Lib.hid ((hb.block _ (lt_of Px.out)).trans Px.out)
  replace Py := Lib.hid ((hb.block _ (lt_of Py.out)).trans Py.out)
  replace Pz := Lib.hid ((hb.block _ (lt_of Pz.out)).trans Pz.out)
  replace Ex := Lib.hid (Ex.out.grow hb)
  replace Ey := Lib.hid (Ey.out.grow hb)
  replace Ef := Lib.hid (Ef.out.grow hb)
  replace Ez := Lib.hid (Ez.out.grow hb)
  replace Eg := Lib.hid (Eg.out.grow hb)
  replace En := Lib.hid (En.out.grow hb)
  replace Eh := Lib.hid (Eh.out.grow hb)
  replace HB := Lib.hid (thn HB.out hb)
  clear hwn hp hqn hb
  have cp1 : ([] : List Ev).length + oy.length ≤ 10000000 := by have := HLEN.out; simp; omega
  have cp2 : ([] ++ oy).length + oz.length ≤ 10000000 := by have := HLEN.out; simp; omega
  have C1 := Lib.hid cp1
  have C2 := Lib.hid cp2
  have hlf := Ef.out.lies
  have hlg := Eg.out.lies
  have LF := Lib.hid hlf
  have LG := Lib.hid hlg
  clear cp1 cp2 hlf hlg
  go_upto_region 9 with (first
    | (at_builtin; refine wpList_app2 33 _ 24 info_event Try.underlying25 rfl (by decide) (by decide) _ rfl _ _ rfl wn.heap.size _ _ [] oy _ rfl (own_new (L := evL) wn 33 #[] 0 wn.heap.size [] rfl rfl (Nat.le_refl _) (by unfold maxLen; omega)) rfl (LF.out.alloc (Nat.le_refl _) _) (ev_one _) C1.out (by simp) ?_; intro v3 w8 o3 g3 a3; have O3 := Lib.hid o3; have b3 := ((Below.refl wn.heap.size wn).alloc (Nat.le_refl _) (.cells #[] 33)).grown g3 (by simp) (fun q hq => ((own_new (L := evL) wn 33 #[] 0 wn.heap.size [] rfl rfl (Nat.le_refl _) (by unfold maxLen; omega)).lt q hq).1); have B3 := Lib.hid b3; clear o3 g3 a3 b3)
    | (at_builtin; refine wpList_app2 33 _ 24 info_event Try.underlying25 rfl (by decide) (by decide) _ rfl _ _ rfl wn.heap.size _ _ ([] ++ oy) oz _ rfl O3.out rfl (LG.out.below B3.out) (ev_one _) C2.out B3.out.size ?_; intro v4 w9 o4 g4 a4; have O4 := Lib.hid o4; have b4 := B3.out.grown g4 B3.out.size (fun q hq => (O3.out.lt q hq).1); have B4 := Lib.hid b4; clear o4 g4 a4 b4))
  have o4 := O4.out
  rw [show [] ++ oy ++ oz = ov by rw [← HL.out]; rfl] at o4
  obtain ⟨Au, cu, rfl, -, -⟩ := own_form o4
  have evu : Evs w9 Au cu ov := Evs.of_own o4
  have hb := B4.out
  replace Pt := Lib.hid ((hb.block _ (lt_of Pt.out)).trans Pt.out)
  replace Px := Lib.hid ((hb.block _ (lt_of Px.out)).trans Px.out)
  replace Py := Lib.hid ((hb.block _ (lt_of Py.out)).trans Py.out)
  replace Pz := Lib.hid ((hb.block _ (lt_of Pz.out)).trans Pz.out)
  replace Pn := Lib.hid ((hb.block _ (lt_of Pn.out)).trans Pn.out)
  replace Ex := Lib.hid (Ex.out.grow hb)
  replace Ey := Lib.hid (Ey.out.grow hb)
  replace Ef := Lib.hid (Ef.out.grow hb)
  replace Ez := Lib.hid (Ez.out.grow hb)
  replace Eg := Lib.hid (Eg.out.grow hb)
  replace En := Lib.hid (En.out.grow hb)
  replace Eh := Lib.hid (Eh.out.grow hb)
  replace HB := Lib.hid (thn HB.out hb)
  clear hb o4
  obtain ⟨⟨z0, z1, z2, z3, z4⟩, zf⟩ := box5 Pz.out
  have zl := lt_of Pz.out
  obtain ⟨⟨n0, n1, n2, n3, n4⟩, nf⟩ := box5 Pn.out
  have nl := lt_of Pn.out
  have hz4 := HLEN.out
  have hovl : ov.length ≤ 10000000 := by rw [← HL.out, List.length_append]; omega
  have ks := bsm_any (z.late : Int) (z.room : Int) (z.mark : Int) (z.front : Int) (z.late : Int) (z.room : Int) (z.mark : Int) (z.front : Int) z.evs z.evs (by omega) w9 A5 A7 c5 c7 Ez.out.lies En.out.lies
  rw [show bufEqB (z.late : Int) (z.room : Int) (z.mark : Int) (z.front : Int) (z.late : Int) (z.room : Int) (z.mark : Int) (z.front : Int) z.evs z.evs = true by simp [bufEqB]] at ks
  have ke := fun (W : World) (hW : Below w9.heap.size w9 W) => revs_any ov ov hovl W W.heap.size (Nat.le_refl _) Au A8 cu c8 (evu.grow hW).lies (Eh.out.grow hW).lies
  simp only [decide_true] at ke
  have KS := Lib.hid ks
  have KE := Lib.hid ke
  clear ks ke hz4 hovl evu
  go_wp2_with (first
    | (go_at_call 23; (with_reducible refine KS.out.mono ?_); rintro e w10 ⟨rfl, hb⟩; have HS := Lib.hid hb; replace HB := Lib.hid (thn HB.out hb); clear hb)
    | (go_at_call 14; (with_reducible refine (KE.out _ HS.out).mono ?_); rintro e w11 ⟨rfl, hb⟩; replace HB := Lib.hid (thn HB.out hb); clear hb))
  go_ret
  exact ⟨rfl, HB.out⟩

set_option maxRecDepth 100000 in
theorem lifted (os : Os) (started : os.Started) (H : Type) (enc : TypeId × Value → H) :
    ReturnsInHanded {} Try.checked os 7 .any (Rows.bufferMovesSpec.pre6 enc Try.prog Try.f7 Rows.bufferMovesRow.domain false) (Rows.bufferMovesSpec.post enc Try.prog Try.f7 false true false false) := by
  refine returnsInHanded_of_change (C := Try.checked) own started (by kernel_rfl) Try.func7
    (ChangeSpec.witness6 (enc := enc) (C := Try.checked) false ⟨#[], #[.int .u64 0, .slice none 0 0, .agg #[.int .u64 0, .int .u64 0]], []⟩ 8 (by kernel_rfl) (by kernel_rfl) (by kernel_rfl) (by kernel_rfl)) ?_
  intro W base args ds gs before hval0 hW hcnd _
  have hval : ∀ (j : Nat) t v, Try.f7.params[j]? = some t → args[j]? = some v → Value.okWide Try.prog W .any base t v := hval0
  have hW' := hW
  obtain ⟨p, q, hA0, hV, rfl, hfz, hnd⟩ := hW
  have hA : DataW.TrodAll enc Try.prog W 0 (fun _ => true) true Try.f7.params.toList args.toList ds p := hA0
  rw [Try.params7] at hA hval
  obtain ⟨v0, vs0, d0, ds0, p0, q0, hargs, rfl, rfl, h0, r0⟩ := trodAll_cons hA
  obtain ⟨v1, vs1, d1, ds1, p1, q1, rfl, rfl, rfl, h1, r1⟩ := trodAll_cons r0
  obtain ⟨v2, vs2, d2, ds2, p2, q2, rfl, rfl, rfl, h2, r2⟩ := trodAll_cons r1
  obtain ⟨rfl, rfl, rfl⟩ := trodAll_nil r2
  obtain rfl : args = #[v0, v1, v2] := by cases args; simp_all
  obtain ⟨rfl, rfl⟩ := trodVars_none hV
  obtain ⟨a0, rfl, rfl, rfl, w0⟩ := open_int Try.underlying22 (hval 0 22 v0 rfl rfl) h0
  obtain ⟨a1, len1, cap1, rfl⟩ := okWide_slice Try.underlying23 (hval 1 23 v1 rfl rfl)
  have k1 := h1
  have lt1 : ∀ x ∈ p1, x.block < W.heap.size := by obtain ⟨m, hm⟩ := k1; exact DataW.trod_lt m _ _ _ hm
  obtain ⟨z1, w1⟩ := Op.open_flats (f := 9) (ks := [.u64, .u64, .u64]) Try.underlying23 (by kernel_rfl) (by kernel_rfl) (by decide) h1
  have k2 := h2
  have lt2 : ∀ x ∈ p2, x.block < W.heap.size := by obtain ⟨m, hm⟩ := k2; exact DataW.trod_lt m _ _ _ hm
  obtain ⟨c2, rfl, fit2⟩ := Op.open_flat (f := 9) (ks := [.u64, .u64]) (by kernel_rfl) (by kernel_rfl) (hval 2 59 v2 rfl rfl) h2
  obtain ⟨a2_0, a2_1, rfl, w2_0, w2_1⟩ := fit2_of fit2
  clear hA0 hval0
  refine (walk a0 a1 len1 cap1 z1 a2_0 a2_1 W w0 w1 w2_0 w2_1).mono fun e W' ⟨he, bel⟩ => ?_
  subst he
  exact ⟨_, rfl, _, _, _, [], _, [], hW', trodAll_mk1 (shut_bool Try.underlying4 _), (trodAll_cons_mk (shut_int Try.underlying22 w0) (trodAll_cons_mk (Below.trod laidOut (by kernel_rfl) (of_decide_eq_true (by kernel_rfl)) k1 bel lt1) (trodAll_cons_mk (Below.trod laidOut (by kernel_rfl) (of_decide_eq_true (by kernel_rfl)) k2 bel lt2) trodAll_mk0))), rfl, bel.frame _, fun h => by cases h⟩

theorem over : Rows.bufferMovesRow.holds Try.pinned (OpenSpec.ofChange Rows.bufferMovesSpec) :=
  OpenClaim.holds_of_wide 7 Try.f7 rfl rfl rfl rfl rfl rfl rfl ⟨rfl, rfl, rfl, rfl, rfl⟩ rfl rfl rfl rfl rfl (by kernel_rfl) Try.func7 (by kernel_rfl)
    (of_decide_eq_true (by kernel_rfl)) (by unfold Func.isWrapper; first | (rw [if_pos (by decide +kernel)]; kernel_rfl) | (rw [if_neg (by decide +kernel)]; exact ⟨rfl, rfl⟩))
    (fun os started H enc _ => lifted os started H enc)

/-- The statement. -/
theorem proved : Rows.BufferMovesSaid := over
#print axioms proved
end Go.Proofs.Ytienfdnlekfmmaa.bufferMoves
