/-
  'skylight/skylightlaw12.BufferLate' returns true for every input, and the input reads afterwards as it read before. Conditions: none.
-/
import Derived.Test.YtienfdnlekfmmaaRows
import Derived.WalkKit
import Derived.ProofKit
import Derived.OpenShut
import Derived.ShutString
import Derived.ChangeOld
import Derived.Below
import Derived.Test.YtienfdnlekfmmaaJ01
import Derived.Test.YtienfdnlekfmmaaJ16
namespace Go.Proofs.Ytienfdnlekfmmaa.bufferLate
open Go.Proofs Go.Proofs.Op Go.Proofs.Rw Go.Proofs.Lm Go.Proofs.Lh Go.Proofs.Rn Go.Proofs.Rf Go.Proofs.Bu
open Go.ChangeShapes Go.WideShapes Go.ChangeAt Go.RowKit
open Go.ChangeMaps (open_string shut_string)
set_option linter.unusedVariables false

theorem own : ownKnob Try.prog.godebug = none := by kernel_rfl
theorem laidOut : laidOutB Try.prog = true := by kernel_rfl

/-- A slice of integers that came in: nil, or a row of cells of its capacity, each fitting its kind. -/
def IsRow (k : IntKind) (w : World) (a : Option Addr) (len cap : Nat) (zs : List Int) : Prop :=
  (a = none ∧ len = 0 ∧ cap = 0 ∧ zs = []) ∨
  ∃ x, a = some x ∧ len ≤ cap ∧ cap ≤ maxLen ∧ zs.length = cap ∧ (∀ i, i < zs.length → w.cell? (x.add i) = some (.int k (zs.getD i 0))) ∧ ∀ n ∈ zs, (Lit.int k n).wf = true

open Go.RowKit Go.Shelf Go.Proofs.Rw Go.Proofs.Lh Go.Proofs.Bu
set_option linter.unusedVariables false
theorem bpush_at (b : Bf) (hb : Okb b) (hlen : b.evs.length < 100000) (e : Ev) (k n : Int) (hk : ((e.2.1 : Nat) : Int) = k) (hn : ((e.2.2 : Nat) : Int) = n) (w : World) (A : Option Addr) (c : Nat) (hev : Evs w A c b.evs) :
    Calls Try.prog 15 #[bufV b A c, .agg #[.int .u64 (e.1 : Int), .int .u64 k, .int .u64 n]] w fun r w' => ToldC w w' A r (pushR b e) (pushC b e) := by
  subst hk hn
  exact bpush_c b hb hlen e w A c hev
theorem turn_may {f m : Nat} : ∀ (l : List Ev) (p : Nat), Sd l → (∀ e ∈ l, 1 ≤ e.2.2 ∧ f < e.1 ∧ e.1 ≤ m) → (∀ e ∈ l, p ≤ e.1) → turnFrom f m p l = true
  | [], _, _, _, _ => rfl
  | e :: l, p, h, h1, h2 => by
    obtain ⟨s1, s2⟩ := h.cons
    obtain ⟨a, b, c⟩ := h1 e List.mem_cons_self
    have d := h2 e List.mem_cons_self
    unfold turnFrom evOk
    rw [turn_may l e.1 s2 (fun x hx => h1 x (List.mem_cons_of_mem _ hx)) s1]
    simp
    omega
theorem may_code {b : Bf} (h : MayB b) : mayC b.late (b.room : Int) b.mark b.front b.evs = 0 := by
  have hc : confB (b.late : Int) (b.room : Int) = true := by
    have := h.late
    have := h.room
    simp [confB]
    omega
  have hn : nearB b.late b.mark b.front = true := by
    have := h.turn
    simp [nearB]
    omega
  have ht : turnFrom b.front b.mark b.front b.evs = true := turn_may b.evs b.front h.sd h.each fun e he => by have := h.each e he; omega
  have hl : decide ((b.evs.length : Int) ≤ (b.room : Int)) = true := decide_eq_true (by have := h.few; omega)
  unfold mayC
  rw [hc, hn, ht, hl]
  rfl

set_option maxRecDepth 100000 in
set_option maxHeartbeats 4000000 in
theorem walk (a0 : Int) (a1 : Option Addr) (len1 cap1 : Nat) (z1 : Nat → Nat → Int) (a2 : Int) (w : World) (w0 : (Lit.int .u64 a0).wf = true) (w1 : Op.FlatRow [.u64, .u64, .u64] w a1 len1 cap1 z1) (w2 : (Lit.int .u64 a2).wf = true) :
    Calls Try.prog 6 #[.int .u64 a0, .slice a1 len1 cap1, .int .u64 a2] w fun e w' => e = .returned (.bool true) ∧ Below w.heap.size w w' := by
  obtain ⟨b0, b1⟩ := bounds_u64 w0
  obtain ⟨t0, t1⟩ := bounds_u64 w2
  obtain ⟨t, rfl⟩ : ∃ l : Nat, a2 = l := ⟨a2.toNat, by omega⟩
  obtain ⟨l, hll, hl, hfit⟩ := ev_of_row w1
  clear w0 w1 w2
  have km := fun (W : World) (hW : Below w.heap.size w W) => bmade_any a0 30 b0 (by omega) (by decide) (by decide) l hfit W a1 len1 cap1 hll (hl.grow hW)
  have hmay := made_may (late := lateOf a0) (room := roomOf2 30) (by have := lateOf_eq a0 b0; omega) (by have := roomOf2_le 30; omega) (by have := roomOf2_le 30; omega) (l.take 40)
  obtain ⟨⟨x, ox⟩, hs⟩ : ∃ s, madeM (lateOf a0) (roomOf2 30) (l.take 40) = s := ⟨_, rfl⟩
  rw [hs] at hmay
  simp only [hs, bufV, bval] at km
  dsimp only at hmay km
  have kp := fun W A c h => bpush_at x (may_ok hmay) (may_lt hmay) (t, 0, 1) 0 1 rfl rfl W A c h
  simp only [ToldC, bufV, bval] at kp
  have KM := Lib.hid km
  have HB := Lib.hid (Below.refl w.heap.size w)
  have HMAY := Lib.hid hmay
  clear km hl hfit hs hll hmay
  obtain ⟨r, hr⟩ : ∃ r, pushR x (t, 0, 1) = r := ⟨_, rfl⟩
  obtain ⟨C, hC⟩ : ∃ r, pushC x (t, 0, 1) = r := ⟨_, rfl⟩
  rw [hr, hC] at kp
  have HR := Lib.hid hr
  have HC := Lib.hid hC
  obtain ⟨y, oy⟩ := r
  dsimp only at kp
  have KP := Lib.hid kp
  clear kp hr hC
  go_enter Try.func6, Try.ntmps6
  go_upto_region 3 with (first
    | (go_at_call 9; (with_reducible refine (bawake_any _).mono ?_); rintro e w1 ⟨rfl, hb⟩; replace HB := Lib.hid (thn HB.out hb); clear hb)
    | (go_at_call 25; (with_reducible refine (KM.out _ HB.out).mono ?_); rintro e w2 ⟨A1, c1, A2, c2, rfl, h1, h2, hb⟩; replace HB := Lib.hid (thn HB.out hb); have Ex := Lib.hid h1; clear h1 h2 hb))
  obtain ⟨wx, hwx⟩ : ∃ W, w2.alloc (.cells #[.int .u64 (x.late : Int), .int .i64 (x.room : Int), .int .u64 (x.mark : Int), .int .u64 (x.front : Int), .slice A1 x.evs.length c1] 31) = W := ⟨_, rfl⟩
  have hb : Below w2.heap.size w2 wx := by rw [← hwx]; exact (Below.refl _ w2).alloc (Nat.le_refl _) _
  have hp : wx.heap[w2.heap.size]? = some (.cells #[.int .u64 (x.late : Int), .int .i64 (x.room : Int), .int .u64 (x.mark : Int), .int .u64 (x.front : Int), .slice A1 x.evs.length c1] 31) := by rw [← hwx]; exact heap_alloc_new w2 _
  rw [hwx]
  obtain ⟨qx, hqx⟩ : ∃ q, w2.heap.size = q := ⟨_, rfl⟩
  rw [hqx] at hp ⊢
  have Px := Lib.hid hp
  replace Ex := Lib.hid (Ex.out.grow hb)
  replace HB := Lib.hid (thn HB.out hb)
  clear hwx hp hqx hb
  obtain ⟨⟨x0, x1, x2, x3, x4⟩, xf⟩ := box5 Px.out
  have xl := lt_of Px.out
  go_upto_region 4 with (go_at_call 21; (with_reducible refine (lmadeB_any _ _ _ _ _ ⟨_, _, _, rfl⟩ _).mono ?_); rintro e w3 ⟨rfl, hb⟩; replace Px := Lib.hid ((hb.block _ (lt_of Px.out)).trans Px.out); replace Ex := Lib.hid (Ex.out.grow hb); replace HB := Lib.hid (thn HB.out hb); clear hb)
  clear x0 x1 x2 x3 x4 xf xl
  obtain ⟨wz, hwz⟩ : ∃ W, w3.alloc (.cells #[.int .u64 (x.late : Int), .int .i64 (x.room : Int), .int .u64 (x.mark : Int), .int .u64 (x.front : Int), .slice A1 x.evs.length c1] 27) = W := ⟨_, rfl⟩
  have hb : Below w3.heap.size w3 wz := by rw [← hwz]; exact (Below.refl _ w3).alloc (Nat.le_refl _) _
  have hp : wz.heap[w3.heap.size]? = some (.cells #[.int .u64 (x.late : Int), .int .i64 (x.room : Int), .int .u64 (x.mark : Int), .int .u64 (x.front : Int), .slice A1 x.evs.length c1] 27) := by rw [← hwz]; exact heap_alloc_new w3 _
  rw [hwz]
  obtain ⟨qz, hqz⟩ : ∃ q, w3.heap.size = q := ⟨_, rfl⟩
  rw [hqz] at hp ⊢
  have Pz := Lib.hid hp
  replace Px := Lib.hid ((hb.block _ (lt_of Px.out)).trans Px.out)
  replace Ex := Lib.hid (Ex.out.grow hb)
  replace HB := Lib.hid (thn HB.out hb)
  clear hwz hp hqz hb
  obtain ⟨⟨z0, z1, z2, z3, z4⟩, zf⟩ := box5 Pz.out
  have zl := lt_of Pz.out
  go_upto_region 5 with (go_at_call 15; (with_reducible refine (KP.out _ _ _ Ex.out).mono ?_); rintro e w4 ⟨A3, c3, A4, c4, rfl, h1, h2, hb, -, -⟩; replace Px := Lib.hid ((hb.block _ (lt_of Px.out)).trans Px.out); replace Pz := Lib.hid ((hb.block _ (lt_of Pz.out)).trans Pz.out); replace Ex := Lib.hid (Ex.out.grow hb); replace HB := Lib.hid (thn HB.out hb); have Ey := Lib.hid h1; clear h1 h2 hb)
  clear z0 z1 z2 z3 z4 zf zl
  obtain ⟨wy, hwy⟩ : ∃ W, w4.alloc (.cells #[.int .u64 (y.late : Int), .int .i64 (y.room : Int), .int .u64 (y.mark : Int), .int .u64 (y.front : Int), .slice A3 y.evs.length c3] 27) = W := ⟨_, rfl⟩
  have hb : Below w4.heap.size w4 wy := by rw [← hwy]; exact (Below.refl _ w4).alloc (Nat.le_refl _) _
  have hp : wy.heap[w4.heap.size]? = some (.cells #[.int .u64 (y.late : Int), .int .i64 (y.room : Int), .int .u64 (y.mark : Int), .int .u64 (y.front : Int), .slice A3 y.evs.length c3] 27) := by rw [← hwy]; exact heap_alloc_new w4 _
  rw [hwy]
  obtain ⟨qy, hqy⟩ : ∃ q, w4.heap.size = q := ⟨_, rfl⟩
  rw [hqy] at hp ⊢
  have Py := Lib.hid hp
  replace Px := Lib.hid ((hb.block _ (lt_of Px.out)).trans Px.out)
  replace Pz := Lib.hid ((hb.block _ (lt_of Pz.out)).trans Pz.out)
  replace Ex := Lib.hid (Ex.out.grow hb)
  replace Ey := Lib.hid (Ey.out.grow hb)
  replace HB := Lib.hid (thn HB.out hb)
  clear hwy hp hqy hb
  have hC := HC.out
  unfold pushC at hC
  rw [if_neg (show ¬ (1 : Nat) = 0 by decide)] at hC
  dsimp only at hC
  by_cases h1 : 9223372036854775807 < t
  · rw [if_pos h1] at hC
    subst hC
    go_wp2
    go_ret
    exact ⟨rfl, HB.out⟩
  rw [if_neg h1] at hC
  obtain ⟨⟨x0, x1, x2, x3, x4⟩, xf⟩ := box5 Px.out
  have xl := lt_of Px.out
  obtain ⟨⟨y0, y1, y2, y3, y4⟩, yf⟩ := box5 Py.out
  have yl := lt_of Py.out
  obtain ⟨⟨z0, z1, z2, z3, z4⟩, zf⟩ := box5 Pz.out
  have zl := lt_of Pz.out
  by_cases h2 : t < x.front
  · rw [if_pos h2] at hC
    subst hC
    have ks := lsameB_any (x.late : Int) (x.room : Int) (x.mark : Int) (x.front : Int) (x.late : Int) (x.room : Int) (x.mark : Int) (x.front : Int) x.evs x.evs (by have := HMAY.out.few; have := HMAY.out.room; omega) _ A1 A1 c1 c1 Ex.out.lies Ex.out.lies
    rw [show bufEqB (x.late : Int) (x.room : Int) (x.mark : Int) (x.front : Int) (x.late : Int) (x.room : Int) (x.mark : Int) (x.front : Int) x.evs x.evs = true by simp [bufEqB]] at ks
    have KS := Lib.hid ks
    clear ks
    go_wp2_with (go_at_call 13; (with_reducible refine KS.out.mono ?_); rintro e w6 ⟨rfl, hb⟩; replace HB := Lib.hid (thn HB.out hb); clear hb)
    go_ret
    exact ⟨rfl, HB.out⟩
  · rw [if_neg h2] at hC
    subst hC
    have hr := HR.out
    unfold pushR at hr
    rw [if_pos HC.out] at hr
    have hm2 := HMAY.out.push (e := (t, 0, 1)) (show 1 ≤ (1 : Nat) from Nat.le_refl _) (by show t ≤ _; omega)
    have hfr : x.front ≤ (pushB x (t, 0, 1)).1.front := settle_front { x with mark := max x.mark t, evs := insL (t, 0, 1) x.evs }
    have hmk : (pushB x (t, 0, 1)).1.mark = max x.mark t := rfl
    have hlt : (pushB x (t, 0, 1)).1.late = x.late := rfl
    rw [hr] at hm2 hfr hmk hlt
    dsimp only at hm2 hfr hmk hlt
    have ht := hm2.turn
    have kq := bmay_any y.late (y.room : Int) y.mark y.front (by omega) y.evs (by have := hm2.few; have := hm2.room; omega) _ A3 c3 Ey.out.lies
    rw [may_code hm2] at kq
    have KQ := Lib.hid kq
    have z1 : (x.front : Int) ≤ y.front := by omega
    have z2 : ((y.mark : Int) == (if x.mark < t then (t : Int) else (x.mark : Int))) = true := by
      rw [beq_iff_eq]
      split <;> omega
    have z3 : (y.mark : Int) - y.front ≤ x.late := by omega
    have z4 : (y.front : Int) ≤ y.mark := by omega
    have z5 : (y.mark : Int) ≤ 9223372036854775807 := by omega
    have z6 : ¬ (t : Int) < x.front := by omega
    clear kq hm2 hfr hmk hlt ht hr
    go_wp2_with (go_at_call 20; (with_reducible refine KQ.out.mono ?_); rintro e w6 ⟨rfl, hb⟩; replace Px := Lib.hid ((hb.block _ (lt_of Px.out)).trans Px.out); replace Pz := Lib.hid ((hb.block _ (lt_of Pz.out)).trans Pz.out); replace Py := Lib.hid ((hb.block _ (lt_of Py.out)).trans Py.out); replace Ex := Lib.hid (Ex.out.grow hb); replace Ey := Lib.hid (Ey.out.grow hb); replace HB := Lib.hid (thn HB.out hb); obtain ⟨⟨x0, x1, x2, x3, x4⟩, xf⟩ := box5 Px.out; obtain ⟨⟨y0, y1, y2, y3, y4⟩, yf⟩ := box5 Py.out; have xl := lt_of Px.out; have yl := lt_of Py.out; clear hb)
    all_goals
      go_ret
      exact ⟨rfl, HB.out⟩

set_option maxRecDepth 100000 in
theorem lifted (os : Os) (started : os.Started) (H : Type) (enc : TypeId × Value → H) :
    ReturnsInHanded {} Try.checked os 6 .any (Rows.bufferLateSpec.pre6 enc Try.prog Try.f6 Rows.bufferLateRow.domain false) (Rows.bufferLateSpec.post enc Try.prog Try.f6 false true false false) := by
  refine returnsInHanded_of_change (C := Try.checked) own started (by kernel_rfl) Try.func6
    (ChangeSpec.witness6 (enc := enc) (C := Try.checked) false ⟨#[], #[.int .u64 0, .slice none 0 0, .int .u64 0], []⟩ 8 (by kernel_rfl) (by kernel_rfl) (by kernel_rfl) (by kernel_rfl)) ?_
  intro W base args ds gs before hval0 hW hcnd _
  have hval : ∀ (j : Nat) t v, Try.f6.params[j]? = some t → args[j]? = some v → Value.okWide Try.prog W .any base t v := hval0
  have hW' := hW
  obtain ⟨p, q, hA0, hV, rfl, hfz, hnd⟩ := hW
  have hA : DataW.TrodAll enc Try.prog W 0 (fun _ => true) true Try.f6.params.toList args.toList ds p := hA0
  rw [Try.params6] at hA hval
  obtain ⟨v0, vs0, d0, ds0, p0, q0, hargs, rfl, rfl, h0, r0⟩ := trodAll_cons hA
  obtain ⟨v1, vs1, d1, ds1, p1, q1, rfl, rfl, rfl, h1, r1⟩ := trodAll_cons r0
  obtain ⟨v2, vs2, d2, ds2, p2, q2, rfl, rfl, rfl, h2, r2⟩ := trodAll_cons r1
  obtain ⟨rfl, rfl, rfl⟩ := trodAll_nil r2
  obtain rfl : args = #[v0, v1, v2] := by cases args; simp_all
  obtain ⟨rfl, rfl⟩ := trodVars_none hV
  obtain ⟨a0, rfl, rfl, rfl, w0⟩ := open_int Try.underlying22 (hval 0 22 v0 rfl rfl) h0
  obtain ⟨a1, len1, cap1, rfl⟩ := okWide_slice Try.underlying23 (hval 1 23 v1 rfl rfl)
  have k1 := h1
  have lt1 : ∀ x ∈ p1, x.block < W.heap.size := by obtain ⟨m, hm⟩ := k1; exact DataW.trod_lt m _ _ _ hm
  obtain ⟨z1, w1⟩ := Op.open_flats (f := 9) (ks := [.u64, .u64, .u64]) Try.underlying23 (by kernel_rfl) (by kernel_rfl) (by decide) h1
  obtain ⟨a2, rfl, rfl, rfl, w2⟩ := open_int Try.underlying22 (hval 2 22 v2 rfl rfl) h2
  clear hA0 hval0
  refine (walk a0 a1 len1 cap1 z1 a2 W w0 w1 w2).mono fun e W' ⟨he, bel⟩ => ?_
  subst he
  exact ⟨_, rfl, _, _, _, [], _, [], hW', trodAll_mk1 (shut_bool Try.underlying4 _), (trodAll_cons_mk (shut_int Try.underlying22 w0) (trodAll_cons_mk (Below.trod laidOut (by kernel_rfl) (of_decide_eq_true (by kernel_rfl)) k1 bel lt1) (trodAll_cons_mk (shut_int Try.underlying22 w2) trodAll_mk0))), rfl, bel.frame _, fun h => by cases h⟩

theorem over : Rows.bufferLateRow.holds Try.pinned (OpenSpec.ofChange Rows.bufferLateSpec) :=
  OpenClaim.holds_of_wide 6 Try.f6 rfl rfl rfl rfl rfl rfl rfl ⟨rfl, rfl, rfl, rfl, rfl⟩ rfl rfl rfl rfl rfl (by kernel_rfl) Try.func6 (by kernel_rfl)
    (of_decide_eq_true (by kernel_rfl)) (by unfold Func.isWrapper; first | (rw [if_pos (by decide +kernel)]; kernel_rfl) | (rw [if_neg (by decide +kernel)]; exact ⟨rfl, rfl⟩))
    (fun os started H enc _ => lifted os started H enc)

/-- The statement. -/
theorem proved : Rows.BufferLateSaid := over
#print axioms proved
end Go.Proofs.Ytienfdnlekfmmaa.bufferLate
