/-
  'skylight/skylightlaw12.BufferMay' returns true for every input, and the input reads afterwards as it read before. Conditions: none.
-/
import Derived.Test.YtienfdnlekfmmaaRows
import Derived.WalkKit
import Derived.ProofKit
import Derived.OpenShut
import Derived.ShutString
import Derived.ChangeOld
import Derived.Below
import Derived.Test.YtienfdnlekfmmaaJ01
import Derived.Test.YtienfdnlekfmmaaJ16
namespace Go.Proofs.Ytienfdnlekfmmaa.bufferMay
open Go.Proofs Go.Proofs.Op Go.Proofs.Rw Go.Proofs.Lm Go.Proofs.Lh Go.Proofs.Rn Go.Proofs.Rf Go.Proofs.Bu
open Go.ChangeShapes Go.WideShapes Go.ChangeAt Go.RowKit
open Go.ChangeMaps (open_string shut_string)
set_option linter.unusedVariables false

theorem own : ownKnob Try.prog.godebug = none := by kernel_rfl
theorem laidOut : laidOutB Try.prog = true := by kernel_rfl

/-- A slice of integers that came in: nil, or a row of cells of its capacity, each fitting its kind. -/
def IsRow (k : IntKind) (w : World) (a : Option Addr) (len cap : Nat) (zs : List Int) : Prop :=
  (a = none ∧ len = 0 ∧ cap = 0 ∧ zs = []) ∨
  ∃ x, a = some x ∧ len ≤ cap ∧ cap ≤ maxLen ∧ zs.length = cap ∧ (∀ i, i < zs.length → w.cell? (x.add i) = some (.int k (zs.getD i 0))) ∧ ∀ n ∈ zs, (Lit.int k n).wf = true

open Go.RowKit Go.Shelf Go.Proofs.Rw Go.Proofs.Lh Go.Proofs.Bu
set_option linter.unusedVariables false

set_option maxRecDepth 100000 in
set_option maxHeartbeats 4000000 in
theorem walk (a0_0 a0_1 a0_2 a0_3 : Int) (a0 : Option Addr) (len0 cap0 : Nat) (z0 : Nat → Nat → Int) (a1_0 a1_1 a1_2 a1_3 : Int) (a1 : Option Addr) (len1 cap1 : Nat) (z1 : Nat → Nat → Int) (w : World) (w0_0 : (Lit.int .u64 a0_0).wf = true) (w0_1 : (Lit.int .i64 a0_1).wf = true) (w0_2 : (Lit.int .u64 a0_2).wf = true) (w0_3 : (Lit.int .u64 a0_3).wf = true) (w0 : Op.FlatRow [.u64, .u64, .u64] w a0 len0 cap0 z0) (w1_0 : (Lit.int .u64 a1_0).wf = true) (w1_1 : (Lit.int .i64 a1_1).wf = true) (w1_2 : (Lit.int .u64 a1_2).wf = true) (w1_3 : (Lit.int .u64 a1_3).wf = true) (w1 : Op.FlatRow [.u64, .u64, .u64] w a1 len1 cap1 z1) :
    Calls Try.prog 4 #[.agg #[.int .u64 a0_0, .int .i64 a0_1, .int .u64 a0_2, .int .u64 a0_3, .slice a0 len0 cap0], .agg #[.int .u64 a1_0, .int .i64 a1_1, .int .u64 a1_2, .int .u64 a1_3, .slice a1 len1 cap1]] w fun e w' => e = .returned (.bool true) ∧ Below w.heap.size w w' := by
  obtain ⟨bl0, bl1⟩ := bounds_u64 w0_0
  obtain ⟨bm0, bm1⟩ := bounds_u64 w0_2
  obtain ⟨bf0, bf1⟩ := bounds_u64 w0_3
  obtain ⟨l, rfl⟩ : ∃ l : Nat, a0_0 = l := ⟨a0_0.toNat, by omega⟩
  obtain ⟨m, rfl⟩ : ∃ l : Nat, a0_2 = l := ⟨a0_2.toNat, by omega⟩
  obtain ⟨f, rfl⟩ : ∃ l : Nat, a0_3 = l := ⟨a0_3.toNat, by omega⟩
  obtain ⟨xs, hxl, hx, -⟩ := ev_of_row w0
  obtain ⟨ys, hyl, hy, -⟩ := ev_of_row w1
  have hmb : m < 18446744073709551616 := by omega
  clear w0_0 w0_1 w0_2 w0_3 w0 w1_0 w1_1 w1_2 w1_3 w1
  obtain ⟨W0, hW0, hsz, p0, p1, b0⟩ := heap_two w (.cells #[.int .u64 (l : Int), .int .i64 a0_1, .int .u64 (m : Int), .int .u64 (f : Int), .slice a0 len0 cap0] 31) (.cells #[.int .u64 a1_0, .int .i64 a1_1, .int .u64 a1_2, .int .u64 a1_3, .slice a1 len1 cap1] 31)
  obtain ⟨⟨x0, x1, x2, x3, x4⟩, -⟩ := box5 p0
  obtain ⟨⟨x5, x6, x7, x8, x9⟩, -⟩ := box5 p1
  have lx0 := lt_of p0
  have lx1 := lt_of p1
  have HW0 := Lib.hid hW0
  have P0 := Lib.hid p0
  have P1 := Lib.hid p1
  have B0 := Lib.hid b0
  have HX := Lib.hid hx
  have HY := Lib.hid hy
  have HXL := Lib.hid hxl
  have HYL := Lib.hid hyl
  clear hW0 p0 p1 b0 hx hy hxl hyl hsz
  by_cases hlen : (len0 : Int) ≤ 60 ∧ (len1 : Int) ≤ 60
  · obtain ⟨hl0, hl1⟩ := hlen
    go_enter Try.func4, Try.ntmps4
    go_upto_region 1 with (fail)
    rw [← HW0.out]
    clear x5 x6 x7 x8 x9
    go_upto_region 2 with (go_at_call 9; (with_reducible refine (bawake_any _).mono ?_); rintro e w1 ⟨rfl, hb⟩; have p0 := (hb.block _ (lt_of P0.out)).trans P0.out; have p1 := (hb.block _ (lt_of P1.out)).trans P1.out; have Q0 := Lib.hid p0; have Q1 := Lib.hid p1; have HB1 := Lib.hid (thn B0.out hb); obtain ⟨⟨y0, y1, y2, y3, y4⟩, -⟩ := box5 p0; obtain ⟨⟨z0, z1, z2, z3, z4⟩, -⟩ := box5 p1; have ly := lt_of p0; have lz := lt_of p1; clear hb p0 p1)
    clear x0 x1 x2 x3 x4 lx0 lx1
    cases hc : confB (l : Int) a0_1
    · have k1 := fun W => bnew_any (l : Int) a0_1 W
      have k2 := fun W => rconf_any (l : Int) a0_1 W
      simp only [newV_no hc] at k1
      rw [hc] at k2
      obtain ⟨q, hq⟩ : ∃ q, bufEqB 0 0 0 0 (l : Int) a0_1 0 0 [] [] = q := ⟨_, rfl⟩
      have k3 : ∀ W, Calls Try.prog 13 #[bval 0 0 0 0 (.slice none 0 0), bval (l : Int) a0_1 0 0 (.slice none 0 0)] W fun e w' => e = .returned (.bool q) ∧ Below W.heap.size W w' := fun W => by
        have h := lsameB_any 0 0 0 0 (l : Int) a0_1 0 0 [] [] (by simp) W none none 0 0 (Lies.nil _ _ (by unfold maxLen; omega)) (Lies.nil _ _ (by unfold maxLen; omega))
        rw [hq] at h
        exact h
      have K1 := Lib.hid k1
      have K2 := Lib.hid k2
      have K3 := Lib.hid k3
      clear k1 k2 k3 hc
      go_upto_region 5 with (go_at_call 10; (with_reducible refine (K1.out _).mono ?_); rintro e w2 ⟨rfl, hb⟩; have p0 := (hb.block _ ly).trans Q0.out; have p1 := (hb.block _ lz).trans Q1.out; have R0 := Lib.hid p0; have R1 := Lib.hid p1; have HB2 := Lib.hid (thn HB1.out hb); clear hb p0 p1)
      obtain ⟨V2, hV2⟩ : ∃ W, w2.alloc (.cells #[.int .u64 0, .int .i64 0, .int .u64 0, .int .u64 0, .slice none 0 0] 27) = W := ⟨_, rfl⟩
      have b2 : Below w2.heap.size w2 V2 := by rw [← hV2]; exact (Below.refl _ w2).alloc (Nat.le_refl _) _
      have p2 : V2.heap[w2.heap.size]? = some (.cells #[.int .u64 0, .int .i64 0, .int .u64 0, .int .u64 0, .slice none 0 0] 27) := by rw [← hV2]; exact heap_alloc_new w2 _
      have p0 := (b2.block _ (lt_of R0.out)).trans R0.out
      have p1 := (b2.block _ (lt_of R1.out)).trans R1.out
      rw [hV2]
      obtain ⟨bq, hbq⟩ : ∃ x, w2.heap.size = x := ⟨_, rfl⟩
      rw [hbq] at p2 ⊢
      obtain ⟨⟨u0, u1, u2, u3, u4⟩, -⟩ := box5 p2
      obtain ⟨⟨v0, v1, v2, v3, v4⟩, -⟩ := box5 p0
      have lu := lt_of p2
      have lv := lt_of p0
      have S0 := Lib.hid p0
      have S1 := Lib.hid p1
      have HB3 := Lib.hid (thn HB2.out b2)
      clear hV2 b2 p2 p0 p1 hbq y0 y1 y2 y3 y4 z0 z1 z2 z3 z4 ly lz
      go_upto_region 7 with (first
        | (go_at_call 19; (with_reducible refine (K2.out _).mono ?_); rintro e w3 ⟨rfl, rfl⟩)
        | (go_at_call 13; (with_reducible refine (K3.out _).mono ?_); rintro e w3 ⟨rfl, hb⟩; have p0 := (hb.block _ (lt_of S0.out)).trans S0.out; have p1 := (hb.block _ (lt_of S1.out)).trans S1.out; have T0 := Lib.hid p0; have T1 := Lib.hid p1; have HB4 := Lib.hid (thn HB3.out hb); clear hb p0 p1))
      obtain ⟨⟨y0, y1, y2, y3, y4⟩, -⟩ := box5 T0.out
      obtain ⟨⟨z0, z1, z2, z3, z4⟩, -⟩ := box5 T1.out
      have ly := lt_of T0.out
      have lz := lt_of T1.out
      have g0 := cell_below ly y0
      have g1 := cell_below ly y1
      have g2 := cell_below ly y2
      have g3 := cell_below ly y3
      have g4 := cell_below ly y4
      have g5 := cell_below lz z0
      have g6 := cell_below lz z1
      have g7 := cell_below lz z2
      have g8 := cell_below lz z3
      have g9 := cell_below lz z4
      have bl : ∀ p : BelowBy w3, Below w.heap.size w p.w' := fun p => thn HB4.out p.h
      have j1 := fun (p : BelowBy w3) => bmay_any l a0_1 m f hmb xs (by rw [HXL.out]; omega) p.w' a0 cap0 (by rw [HXL.out]; exact HX.out.grow (bl p))
      have j2 := fun (p : BelowBy w3) => rmay_any l a0_1 m f hmb xs (by rw [HXL.out]; omega) p.w' a0 cap0 (by rw [HXL.out]; exact HX.out.grow (bl p))
      have j3 := fun (p : BelowBy w3) => bsm_any (l : Int) a0_1 (m : Int) (f : Int) a1_0 a1_1 a1_2 a1_3 xs ys (by rw [HXL.out]; omega) p.w' a0 a1 cap0 cap1 (by rw [HXL.out]; exact HX.out.grow (bl p)) (by rw [HYL.out]; exact HY.out.grow (bl p))
      have j4 := fun (p : BelowBy w3) => rsm_any (l : Int) a0_1 (m : Int) (f : Int) a1_0 a1_1 a1_2 a1_3 xs ys (by rw [HXL.out]; omega) p.w' a0 a1 cap0 cap1 (by rw [HXL.out]; exact HX.out.grow (bl p)) (by rw [HYL.out]; exact HY.out.grow (bl p))
      have hG1 : ∀ G : Int, (G == G) = true := fun G => by simp
      have hG2 : ∀ G : Bool, (G == G) = true := fun G => by cases G <;> rfl
      generalize mayC l a0_1 m f xs = G at j1 j2
      generalize bufEqB (l : Int) a0_1 (m : Int) (f : Int) a1_0 a1_1 a1_2 a1_3 xs ys = G2 at j3 j4
      rw [HXL.out] at j1 j2
      simp only [HXL.out, HYL.out] at j3 j4
      have J1 := Lib.hid j1
      have J2 := Lib.hid j2
      have J3 := Lib.hid j3
      have J4 := Lib.hid j4
      clear j1 j2 j3 j4 bl y0 y1 y2 y3 y4 z0 z1 z2 z3 z4 u0 u1 u2 u3 u4 v0 v1 v2 v3 v4
      refine wp_region_below (by kernel_rfl) (by kernel_rfl) ?_
      repeat (quiet_step (first
        | (go_at_call 21; exact below_of (lmadeB_any _ _ _ _ _ ⟨_, _, _, rfl⟩ _))
        | (go_at_call 20; exact below_of (J1.out _))
        | (go_at_call 22; exact below_of (J2.out _))
        | (go_at_call 23; exact below_of (J3.out _))
        | (go_at_call 24; exact below_of (J4.out _))))
      refine wpQuiet_nil ?_
      intro _ hw'
      obtain ⟨pq, hw''⟩ := hw'
      subst hw''
      have HPQ := Lib.hid (thn HB4.out pq.h)
      go_wp2
      go_ret
      exact ⟨rfl, HPQ.out⟩
    · have k1 := fun W => bnew_any (l : Int) a0_1 W
      have k2 := fun W => rconf_any (l : Int) a0_1 W
      simp only [newV_yes hc] at k1
      rw [hc] at k2
      have k3 : ∀ W, Calls Try.prog 13 #[bval (l : Int) a0_1 0 0 (.slice none 0 0), bval (l : Int) a0_1 0 0 (.slice none 0 0)] W fun e w' => e = .returned (.bool true) ∧ Below W.heap.size W w' := fun W => by
        have h := lsameB_any (l : Int) a0_1 0 0 (l : Int) a0_1 0 0 [] [] (by simp) W none none 0 0 (Lies.nil _ _ (by unfold maxLen; omega)) (Lies.nil _ _ (by unfold maxLen; omega))
        rw [show bufEqB (l : Int) a0_1 0 0 (l : Int) a0_1 0 0 [] [] = true by simp [bufEqB]] at h
        exact h
      have K1 := Lib.hid k1
      have K2 := Lib.hid k2
      have K3 := Lib.hid k3
      clear k1 k2 k3 hc
      go_upto_region 5 with (go_at_call 10; (with_reducible refine (K1.out _).mono ?_); rintro e w2 ⟨rfl, hb⟩; have p0 := (hb.block _ ly).trans Q0.out; have p1 := (hb.block _ lz).trans Q1.out; have R0 := Lib.hid p0; have R1 := Lib.hid p1; have HB2 := Lib.hid (thn HB1.out hb); clear hb p0 p1)
      obtain ⟨V2, hV2⟩ : ∃ W, w2.alloc (.cells #[.int .u64 (l : Int), .int .i64 a0_1, .int .u64 0, .int .u64 0, .slice none 0 0] 27) = W := ⟨_, rfl⟩
      have b2 : Below w2.heap.size w2 V2 := by rw [← hV2]; exact (Below.refl _ w2).alloc (Nat.le_refl _) _
      have p2 : V2.heap[w2.heap.size]? = some (.cells #[.int .u64 (l : Int), .int .i64 a0_1, .int .u64 0, .int .u64 0, .slice none 0 0] 27) := by rw [← hV2]; exact heap_alloc_new w2 _
      have p0 := (b2.block _ (lt_of R0.out)).trans R0.out
      have p1 := (b2.block _ (lt_of R1.out)).trans R1.out
      rw [hV2]
      obtain ⟨bq, hbq⟩ : ∃ x, w2.heap.size = x := ⟨_, rfl⟩
      rw [hbq] at p2 ⊢
      obtain ⟨⟨u0, u1, u2, u3, u4⟩, -⟩ := box5 p2
      obtain ⟨⟨v0, v1, v2, v3, v4⟩, -⟩ := box5 p0
      have lu := lt_of p2
      have lv := lt_of p0
      have S0 := Lib.hid p0
      have S1 := Lib.hid p1
      have HB3 := Lib.hid (thn HB2.out b2)
      clear hV2 b2 p2 p0 p1 hbq y0 y1 y2 y3 y4 z0 z1 z2 z3 z4 ly lz
      go_upto_region 7 with (first
        | (go_at_call 19; (with_reducible refine (K2.out _).mono ?_); rintro e w3 ⟨rfl, rfl⟩)
        | (go_at_call 13; (with_reducible refine (K3.out _).mono ?_); rintro e w3 ⟨rfl, hb⟩; have p0 := (hb.block _ (lt_of S0.out)).trans S0.out; have p1 := (hb.block _ (lt_of S1.out)).trans S1.out; have T0 := Lib.hid p0; have T1 := Lib.hid p1; have HB4 := Lib.hid (thn HB3.out hb); clear hb p0 p1))
      obtain ⟨⟨y0, y1, y2, y3, y4⟩, -⟩ := box5 T0.out
      obtain ⟨⟨z0, z1, z2, z3, z4⟩, -⟩ := box5 T1.out
      have ly := lt_of T0.out
      have lz := lt_of T1.out
      have g0 := cell_below ly y0
      have g1 := cell_below ly y1
      have g2 := cell_below ly y2
      have g3 := cell_below ly y3
      have g4 := cell_below ly y4
      have g5 := cell_below lz z0
      have g6 := cell_below lz z1
      have g7 := cell_below lz z2
      have g8 := cell_below lz z3
      have g9 := cell_below lz z4
      have bl : ∀ p : BelowBy w3, Below w.heap.size w p.w' := fun p => thn HB4.out p.h
      have j1 := fun (p : BelowBy w3) => bmay_any l a0_1 m f hmb xs (by rw [HXL.out]; omega) p.w' a0 cap0 (by rw [HXL.out]; exact HX.out.grow (bl p))
      have j2 := fun (p : BelowBy w3) => rmay_any l a0_1 m f hmb xs (by rw [HXL.out]; omega) p.w' a0 cap0 (by rw [HXL.out]; exact HX.out.grow (bl p))
      have j3 := fun (p : BelowBy w3) => bsm_any (l : Int) a0_1 (m : Int) (f : Int) a1_0 a1_1 a1_2 a1_3 xs ys (by rw [HXL.out]; omega) p.w' a0 a1 cap0 cap1 (by rw [HXL.out]; exact HX.out.grow (bl p)) (by rw [HYL.out]; exact HY.out.grow (bl p))
      have j4 := fun (p : BelowBy w3) => rsm_any (l : Int) a0_1 (m : Int) (f : Int) a1_0 a1_1 a1_2 a1_3 xs ys (by rw [HXL.out]; omega) p.w' a0 a1 cap0 cap1 (by rw [HXL.out]; exact HX.out.grow (bl p)) (by rw [HYL.out]; exact HY.out.grow (bl p))
      have hG1 : ∀ G : Int, (G == G) = true := fun G => by simp
      have hG2 : ∀ G : Bool, (G == G) = true := fun G => by cases G <;> rfl
      generalize mayC l a0_1 m f xs = G at j1 j2
      generalize bufEqB (l : Int) a0_1 (m : Int) (f : Int) a1_0 a1_1 a1_2 a1_3 xs ys = G2 at j3 j4
      rw [HXL.out] at j1 j2
      simp only [HXL.out, HYL.out] at j3 j4
      have J1 := Lib.hid j1
      have J2 := Lib.hid j2
      have J3 := Lib.hid j3
      have J4 := Lib.hid j4
      clear j1 j2 j3 j4 bl y0 y1 y2 y3 y4 z0 z1 z2 z3 z4 u0 u1 u2 u3 u4 v0 v1 v2 v3 v4
      refine wp_region_below (by kernel_rfl) (by kernel_rfl) ?_
      repeat (quiet_step (first
        | (go_at_call 21; exact below_of (lmadeB_any _ _ _ _ _ ⟨_, _, _, rfl⟩ _))
        | (go_at_call 20; exact below_of (J1.out _))
        | (go_at_call 22; exact below_of (J2.out _))
        | (go_at_call 23; exact below_of (J3.out _))
        | (go_at_call 24; exact below_of (J4.out _))))
      refine wpQuiet_nil ?_
      intro _ hw'
      obtain ⟨pq, hw''⟩ := hw'
      subst hw''
      have HPQ := Lib.hid (thn HB4.out pq.h)
      go_wp2
      go_ret
      exact ⟨rfl, HPQ.out⟩
  · go_enter Try.func4, Try.ntmps4
    go_upto_region 1 with (fail)
    rw [← HW0.out]
    go_upto_region 2 with (go_at_call 9; (with_reducible refine (bawake_any _).mono ?_); rintro e w1 ⟨rfl, hb⟩; have p0 := (hb.block _ (lt_of P0.out)).trans P0.out; have p1 := (hb.block _ (lt_of P1.out)).trans P1.out; have HB1 := Lib.hid (thn B0.out hb); obtain ⟨⟨y0, y1, y2, y3, y4⟩, -⟩ := box5 p0; obtain ⟨⟨z0, z1, z2, z3, z4⟩, -⟩ := box5 p1; have ly := lt_of p0; have lz := lt_of p1; clear hb p0 p1)
    by_cases hl0 : (len0 : Int) ≤ 60
    · have hl1 : ¬ (len1 : Int) ≤ 60 := fun h => hlen ⟨hl0, h⟩
      clear hlen
      go_wp2
      go_ret
      exact ⟨rfl, HB1.out⟩
    · clear hlen
      go_wp2
      go_ret
      exact ⟨rfl, HB1.out⟩

set_option maxRecDepth 100000 in
theorem lifted (os : Os) (started : os.Started) (H : Type) (enc : TypeId × Value → H) :
    ReturnsInHanded {} Try.checked os 4 .any (Rows.bufferMaySpec.pre6 enc Try.prog Try.f4 Rows.bufferMayRow.domain false) (Rows.bufferMaySpec.post enc Try.prog Try.f4 false true false false) := by
  refine returnsInHanded_of_change (C := Try.checked) own started (by kernel_rfl) Try.func4
    (ChangeSpec.witness6 (enc := enc) (C := Try.checked) false ⟨#[], #[.agg #[.int .u64 0, .int .i64 0, .int .u64 0, .int .u64 0, .slice none 0 0], .agg #[.int .u64 0, .int .i64 0, .int .u64 0, .int .u64 0, .slice none 0 0]], []⟩ 8 (by kernel_rfl) (by kernel_rfl) (by kernel_rfl) (by kernel_rfl)) ?_
  intro W base args ds gs before hval0 hW hcnd _
  have hval : ∀ (j : Nat) t v, Try.f4.params[j]? = some t → args[j]? = some v → Value.okWide Try.prog W .any base t v := hval0
  have hW' := hW
  obtain ⟨p, q, hA0, hV, rfl, hfz, hnd⟩ := hW
  have hA : DataW.TrodAll enc Try.prog W 0 (fun _ => true) true Try.f4.params.toList args.toList ds p := hA0
  rw [Try.params4] at hA hval
  obtain ⟨v0, vs0, d0, ds0, p0, q0, hargs, rfl, rfl, h0, r0⟩ := trodAll_cons hA
  obtain ⟨v1, vs1, d1, ds1, p1, q1, rfl, rfl, rfl, h1, r1⟩ := trodAll_cons r0
  obtain ⟨rfl, rfl, rfl⟩ := trodAll_nil r1
  obtain rfl : args = #[v0, v1] := by cases args; simp_all
  obtain ⟨rfl, rfl⟩ := trodVars_none hV
  have k0 := h0
  have lt0 : ∀ x ∈ p0, x.block < W.heap.size := by obtain ⟨m, hm⟩ := k0; exact DataW.trod_lt m _ _ _ hm
  obtain ⟨a0_0, a0_1, a0_2, a0_3, a0, len0, cap0, z0, rfl, w0_0, w0_1, w0_2, w0_3, w0⟩ := Op.open_buf (f := 9) (e := 33) Try.underlying31 (by kernel_rfl) (by kernel_rfl) (by kernel_rfl) (by kernel_rfl) (by kernel_rfl) (by kernel_rfl) ⟨rfl, rfl, rfl, rfl, rfl⟩ ⟨by kernel_rfl, by kernel_rfl, by kernel_rfl, by kernel_rfl, by kernel_rfl⟩ (by kernel_rfl) (by kernel_rfl) (hval 0 31 v0 rfl rfl) h0
  have k1 := h1
  have lt1 : ∀ x ∈ p1, x.block < W.heap.size := by obtain ⟨m, hm⟩ := k1; exact DataW.trod_lt m _ _ _ hm
  obtain ⟨a1_0, a1_1, a1_2, a1_3, a1, len1, cap1, z1, rfl, w1_0, w1_1, w1_2, w1_3, w1⟩ := Op.open_buf (f := 9) (e := 33) Try.underlying31 (by kernel_rfl) (by kernel_rfl) (by kernel_rfl) (by kernel_rfl) (by kernel_rfl) (by kernel_rfl) ⟨rfl, rfl, rfl, rfl, rfl⟩ ⟨by kernel_rfl, by kernel_rfl, by kernel_rfl, by kernel_rfl, by kernel_rfl⟩ (by kernel_rfl) (by kernel_rfl) (hval 1 31 v1 rfl rfl) h1
  clear hA0 hval0
  refine (walk a0_0 a0_1 a0_2 a0_3 a0 len0 cap0 z0 a1_0 a1_1 a1_2 a1_3 a1 len1 cap1 z1 W w0_0 w0_1 w0_2 w0_3 w0 w1_0 w1_1 w1_2 w1_3 w1).mono fun e W' ⟨he, bel⟩ => ?_
  subst he
  exact ⟨_, rfl, _, _, _, [], _, [], hW', trodAll_mk1 (shut_bool Try.underlying4 _), (trodAll_cons_mk (Below.trod laidOut (by kernel_rfl) (of_decide_eq_true (by kernel_rfl)) k0 bel lt0) (trodAll_cons_mk (Below.trod laidOut (by kernel_rfl) (of_decide_eq_true (by kernel_rfl)) k1 bel lt1) trodAll_mk0)), rfl, bel.frame _, fun h => by cases h⟩

theorem over : Rows.bufferMayRow.holds Try.pinned (OpenSpec.ofChange Rows.bufferMaySpec) :=
  OpenClaim.holds_of_wide 4 Try.f4 rfl rfl rfl rfl rfl rfl rfl ⟨rfl, rfl, rfl, rfl, rfl⟩ rfl rfl rfl rfl rfl (by kernel_rfl) Try.func4 (by kernel_rfl)
    (of_decide_eq_true (by kernel_rfl)) (by unfold Func.isWrapper; first | (rw [if_pos (by decide +kernel)]; kernel_rfl) | (rw [if_neg (by decide +kernel)]; exact ⟨rfl, rfl⟩))
    (fun os started H enc _ => lifted os started H enc)

/-- The statement. -/
theorem proved : Rows.BufferMaySaid := over
#print axioms proved
end Go.Proofs.Ytienfdnlekfmmaa.bufferMay
