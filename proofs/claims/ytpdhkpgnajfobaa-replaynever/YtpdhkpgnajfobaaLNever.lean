/-
  'skylight/skylightlaw10.ReplayNever' returns true for every input, and the input reads afterwards as it read before. Conditions: none.
-/
import Derived.Test.YtpdhkpgnajfobaaRows
import Derived.WalkKit
import Derived.ProofKit
import Derived.OpenShut
import Derived.ShutString
import Derived.ChangeOld
import Derived.Below
import Derived.Test.YtpdhkpgnajfobaaJ01
import Derived.Test.YtpdhkpgnajfobaaJ22
namespace Go.Proofs.Ytpdhkpgnajfobaa.replayNever
open Go.Proofs Go.Proofs.Rn Go.Proofs.Op Go.Proofs.Rw Go.Proofs.Lm Go.Proofs.Lh Go.Proofs.Rf Go.Proofs.Dg
open Go.ChangeShapes Go.WideShapes Go.ChangeAt Go.RowKit
open Go.ChangeMaps (open_string shut_string)
set_option linter.unusedVariables false

theorem own : ownKnob Try.prog.godebug = none := by kernel_rfl
theorem laidOut : laidOutB Try.prog = true := by kernel_rfl

/-- A slice of integers that came in: nil, or a row of cells of its capacity, each fitting its kind. -/
def IsRow (k : IntKind) (w : World) (a : Option Addr) (len cap : Nat) (zs : List Int) : Prop :=
  (a = none ∧ len = 0 ∧ cap = 0 ∧ zs = []) ∨
  ∃ x, a = some x ∧ len ≤ cap ∧ cap ≤ maxLen ∧ zs.length = cap ∧ (∀ i, i < zs.length → w.cell? (x.add i) = some (.int k (zs.getD i 0))) ∧ ∀ n ∈ zs, (Lit.int k n).wf = true

open Go.RowKit Go.Shelf Go.Proofs.Rw Go.Proofs.Lh Go.Proofs.Rf

set_option maxRecDepth 100000 in
set_option maxHeartbeats 4000000 in
theorem walk (a0_0 a0_5 : Int) (a0 : Fin 4 → Option Addr) (len0 cap0 : Fin 4 → Nat) (z0 : Fin 4 → Nat → Nat → Int) (a1 : Int) (a2 : Int) (w : World) (w0_0 : (Lit.int .i64 a0_0).wf = true) (w0_5 : (Lit.int .u8 a0_5).wf = true) (w0 : ∀ j : Fin 4, Op.FlatRow [.u64, .u64] w (a0 j) (len0 j) (cap0 j) (z0 j)) (w1 : (Lit.int .u64 a1).wf = true) (w2 : (Lit.int .u64 a2).wf = true) :
    Calls Try.prog 6 #[.agg #[.int .i64 a0_0, .slice (a0 0) (len0 0) (cap0 0), .slice (a0 1) (len0 1) (cap0 1), .slice (a0 2) (len0 2) (cap0 2), .slice (a0 3) (len0 3) (cap0 3), .int .u8 a0_5], .int .u64 a1, .int .u64 a2] w fun e w' => e = .returned (.bool true) ∧ Below w.heap.size w w' := by
  obtain ⟨t, hok, ht⟩ := tr_frame w0_0 w0_5 w0
  rw [ht]
  obtain ⟨c10, c11⟩ := bounds_u64 w1
  obtain ⟨n1, rfl⟩ : ∃ n : Nat, a1 = (n : Int) := ⟨a1.toNat, by omega⟩
  have hn1 : n1 < 18446744073709551616 := by omega
  clear c10 c11 w1
  obtain ⟨c20, c21⟩ := bounds_u64 w2
  obtain ⟨n2, rfl⟩ : ∃ n : Nat, a2 = (n : Int) := ⟨a2.toNat, by omega⟩
  have hn2 : n2 < 18446744073709551616 := by omega
  clear c20 c21 w2
  clear ht w0_0 w0_5 w0
  obtain ⟨W0, hW0⟩ : ∃ W, w.alloc (.cells t.cells 38) = W := ⟨_, rfl⟩
  have hB0 : Below w.heap.size w W0 := by rw [← hW0]; exact (Below.refl _ w).alloc (Nat.le_refl _) _
  have p0 : W0.heap[w.heap.size]? = some (.cells t.cells 38) := by rw [← hW0]; exact heap_alloc_new w _
  have HOK := Lib.hid (hok.grow hB0)
  have HB0 := Lib.hid hB0
  have P0 := Lib.hid p0
  have HW0 := Lib.hid hW0
  clear hok hB0 p0 hW0
  go_enter Try.func6, Try.ntmps6
  go_upto_region 1 with (fail)
  rw [HW0.out]
  go_upto_region 2 with (go_at_call 9; refine (awake_any _).mono ?_; rintro e w1 ⟨rfl, hb1⟩; have HB1 := Lib.hid hb1; clear hb1)
  have HOK1 := Lib.hid (HOK.out.grow HB1.out)
  have hp1 := (HB1.out.block _ (lt_of P0.out)).trans P0.out
  have HP1 := Lib.hid hp1
  have HW1 := Lib.hid (thn HB0.out HB1.out)
  obtain ⟨z0, z1, z5⟩ := tr_box hp1
  have z10 := z1 0 (by omega)
  have z11 := z1 1 (by omega)
  have z12 := z1 2 (by omega)
  have z13 := z1 3 (by omega)
  have l0 := lt_of hp1
  clear z1 hp1 HOK HB0 P0 HW0 HB1
  go_upto_region 4 with (go_at_call 12; refine (lightT_any t _ HOK1.out).mono ?_; rintro e w2 ⟨q, rfl, hq, hb2⟩; have HQ := Lib.hid hq; have HB2 := Lib.hid hb2; clear hq hb2; cases q)
  all_goals try (go_ret; exact ⟨rfl, thn HW1.out HB2.out⟩)
  have HLI := Lib.hid (HQ.out (by simp))
  have hp2 := (HB2.out.block _ (lt_of HP1.out)).trans HP1.out
  have HOK2 := Lib.hid (HOK1.out.grow HB2.out)
  have HW2 := Lib.hid (thn HW1.out HB2.out)
  have HP2 := Lib.hid hp2
  clear z0 z10 z11 z12 z13 z5 l0 HOK1 HP1 HW1 HB2 HQ
  obtain ⟨z0, z1, z5⟩ := tr_box hp2
  have z10 := z1 0 (by omega)
  have z11 := z1 1 (by omega)
  have z12 := z1 2 (by omega)
  have z13 := z1 3 (by omega)
  have l0 := lt_of hp2
  clear z1
  clear hp2
  have hbu := built_any t w2 HOK2.out HLI.out
  obtain ⟨kk, hkk⟩ : ∃ x, kOf t.K = x := ⟨_, rfl⟩
  obtain ⟨d, hd⟩ : ∃ x, t.deep % 5 = x := ⟨_, rfl⟩
  rw [hkk, hd] at hbu
  have hbu2 : Calls Try.prog 18 #[.agg t.cells] w2 fun e w' => ∃ (A : Option Addr) (c : Nat) (L : Lv) (N : Nat), e = .returned (.agg #[.int .i64 (kk : Int), .int .i64 (d : Int), .slice A N c]) ∧ L.length = N ∧ Levs w' w'.heap.size (.slice A N c) L ∧ Stood t kk d L ∧ Below w2.heap.size w2 w' := hbu.mono (by rintro e w' ⟨A, c, L, rfl, h1, h2, h3⟩; exact ⟨A, c, L, _, rfl, rfl, h1, h2, h3⟩)
  have HBU := Lib.hid hbu2
  have HD := Lib.hid hd
  have HKK := Lib.hid hkk
  clear hbu hbu2 hd hkk
  go_upto_region 5 with (go_at_call 18; refine HBU.out.mono ?_; rintro e w3 ⟨A, c, L, N, rfl, hN, hL3, hst, hb3⟩; have HN := Lib.hid hN; have HL3 := Lib.hid hL3; have HST := Lib.hid hst; have HB3 := Lib.hid hb3; clear hL3 hst hb3 hN)
  obtain ⟨W4, hW4⟩ : ∃ W, w3.alloc (.cells #[.int .i64 (kk : Int), .int .i64 (d : Int), .slice A N c] 29) = W := ⟨_, rfl⟩
  have hB4 : Below w3.heap.size w3 W4 := by rw [← hW4]; exact (Below.refl _ w3).alloc (Nat.le_refl _) _
  have pH : W4.heap[w3.heap.size]? = some (.cells #[.int .i64 (kk : Int), .int .i64 (d : Int), .slice A N c] 29) := by rw [← hW4]; exact heap_alloc_new w3 _
  rw [hW4]
  have hB34 := thn HB3.out hB4
  have hp4 := (hB34.block _ (lt_of HP2.out)).trans HP2.out
  have HP4 := Lib.hid hp4
  have HB4 := Lib.hid hB34
  have HW4 := Lib.hid (thn HW2.out hB34)
  have HL4 := Lib.hid (HL3.out.grow hB4)
  have HOK4 := Lib.hid (HOK2.out.grow hB34)
  obtain ⟨bH, hbH⟩ : ∃ b, w3.heap.size = b := ⟨_, rfl⟩
  rw [hbH] at pH ⊢
  have PH := Lib.hid pH
  obtain ⟨y0, y1, y2⟩ := box3 pH
  have lH := lt_of pH
  clear z0 z10 z11 z12 z13 z5 l0 HBU hW4 hB4 pH hB34 hp4 hbH HP2 HB3 HL3 HOK2 HW2
  obtain ⟨rl, hrl⟩ : ∃ x, sumT d (exT t n1 n2) = x := ⟨_, rfl⟩
  have hre : ∀ W : World, Grows W4 W → Calls Try.prog 20 #[.agg t.cells, .int .u64 (n1 : Int), .int .u64 (n2 : Int)] W fun e w' => e = .returned (.int .u64 (rl : Int)) ∧ Below W.heap.size W w' := by
    intro W hW
    have := real_any t n1 n2 hn1 W (HOK4.out.grow hW) HLI.out
    rw [HD.out, hrl] at this
    exact this
  have HRE := Lib.hid hre
  clear hre
  obtain ⟨s, hs⟩ : ∃ x, sureL (withB n1 n2) 0 L = x := ⟨_, rfl⟩
  obtain ⟨y, hy⟩ : ∃ x, cutS (withB n1 n2) 0 L = x := ⟨_, rfl⟩
  obtain ⟨es, hes⟩ : ∃ x, estL (withB n1 n2) L = x := ⟨_, rfl⟩
  have CP' : ∀ W : World, Grows W4 W → Calls Try.prog 22 #[.agg #[.int .i64 (kk : Int), .int .i64 (d : Int), .slice A N c], .int .u64 (n1 : Int), .int .u64 (n2 : Int)] W fun e w' => e = .returned (.tuple #[.int .u64 (s : Int), .int .u64 (y : Int)]) ∧ Below W.heap.size W w' := by
    intro W hW
    have := parts_any (kk : Int) (d : Int) L (by have := HST.out.made.len; omega) (fun i => by have := HST.out.made.lev i; omega) (by have := HST.out.made.small; omega) n1 n2 (by omega) W A c (by rw [HN.out]; exact HL4.out.grow hW)
    rw [hs, hy, HN.out] at this
    exact this
  have CP := Lib.hid CP'
  clear CP'
  have CO' : ∀ W : World, Grows W4 W → Calls Try.prog 19 #[.agg #[.int .i64 (kk : Int), .int .i64 (d : Int), .slice A N c], .int .u64 (n1 : Int), .int .u64 (n2 : Int)] W fun e w' => e = .returned (.int .u64 (es : Int)) ∧ Below W.heap.size W w' := by
    intro W hW
    have := of_any (kk : Int) (d : Int) L (by have := HST.out.made.len; omega) (fun i => by have := HST.out.made.lev i; omega) (by have := HST.out.made.small; omega) n1 n2 (by omega) W A c (by rw [HN.out]; exact HL4.out.grow hW)
    rw [hes, HN.out] at this
    exact this
  have CO := Lib.hid CO'
  clear CO'
  have hnv := HST.out.never n1 n2
  have hno := HST.out.none n1 n2
  have hle := parts_le (withB n1 n2) L 0
  have hli := HST.out.light
  rw [tot_eq] at hle
  rw [hrl, hs, hy] at hnv
  rw [hrl, hes] at hno
  rw [hs, hy] at hle
  clear hs hy hes hrl
  have HNV := Lib.hid hnv
  have HNO := Lib.hid hno
  have HLE := Lib.hid (show s + y ≤ 263882790666240 by omega)
  clear hnv hno hle hli
  go_upto_region 6 with (first
    | (go_at_call 13; refine (lmade_any _ _ _ _ _ _).mono ?_; rintro e w5 ⟨rfl, hb⟩; have HB5 := Lib.hid hb; clear hb)
    | (go_at_call 22; refine (CP.out w5 HB5.out).mono ?_; rintro e w6 ⟨rfl, hb6⟩; have HB6 := Lib.hid (thn HB5.out hb6); clear hb6))
  have hp6 := (HB6.out.block _ (lt_of HP4.out)).trans HP4.out
  obtain ⟨z0, z1, z5⟩ := tr_box hp6
  have z10 := z1 0 (by omega)
  have z11 := z1 1 (by omega)
  have z12 := z1 2 (by omega)
  have z13 := z1 3 (by omega)
  have l0 := lt_of hp6
  clear z1
  clear hp6
  go_upto_region 7 with (go_at_call 20; refine (HRE.out w6 HB6.out).mono ?_; rintro e w7 ⟨rfl, hb7⟩; have HB7 := Lib.hid (thn HB6.out hb7); clear hb7)
  have hp7 := (HB7.out.block _ (lt_of PH.out)).trans PH.out
  clear z0 z10 z11 z12 z13 z5 l0 y0 y1 y2 lH
  obtain ⟨y0, y1, y2⟩ := box3 hp7
  have lH := lt_of hp7
  clear hp7
  have hsy := HLE.out
  have hnv := HNV.out
  obtain ⟨q, hq⟩ : ∃ q : Nat, s + y = q := ⟨_, rfl⟩
  rw [hq] at hsy hnv
  have f1 : (s : Int) + (y : Int) = (q : Int) := by omega
  have b1 : (s : Int) + (y : Int) ≤ 18446744073709551615 := by omega
  have d1 : decide (rl ≤ q) = true := by simpa using hnv
  clear hq hsy hnv
  rcases Nat.eq_zero_or_pos rl with h0 | h0
  · have g1 : decide (0 < rl) = false := by simp; omega
    have e0 : es = 0 := HNO.out h0
    subst e0
    clear h0
    go_wp2_with (first
      | (go_at_call 13; refine (lmade_any _ _ _ _ _ _).mono ?_; rintro e w8 ⟨rfl, hb⟩; have HB8 := Lib.hid hb; clear hb)
      | (go_at_call 19; refine (CO.out w8 (thn HB7.out HB8.out)).mono ?_; rintro e w9 ⟨rfl, hb9⟩; have HB9 := Lib.hid hb9; clear hb9))
    go_ret
    exact ⟨rfl, thn HW4.out (thn HB7.out (thn HB8.out HB9.out))⟩
  · have g1 : decide (0 < rl) = true := by simpa using h0
    clear h0
    go_wp2
    go_ret
    exact ⟨rfl, thn HW4.out HB7.out⟩

set_option maxRecDepth 100000 in
theorem lifted (os : Os) (started : os.Started) (H : Type) (enc : TypeId × Value → H) :
    ReturnsInHanded {} Try.checked os 6 .any (Rows.replayNeverSpec.pre6 enc Try.prog Try.f6 Rows.replayNeverRow.domain false) (Rows.replayNeverSpec.post enc Try.prog Try.f6 false true false false) := by
  refine returnsInHanded_of_change (C := Try.checked) own started (by kernel_rfl) Try.func6
    (ChangeSpec.witness6 (enc := enc) (C := Try.checked) false ⟨#[], #[.agg #[.int .i64 0, .slice none 0 0, .slice none 0 0, .slice none 0 0, .slice none 0 0, .int .u8 0], .int .u64 0, .int .u64 0], []⟩ 8 (by kernel_rfl) (by kernel_rfl) (by kernel_rfl) (by kernel_rfl)) ?_
  intro W base args ds gs before hval0 hW hcnd _
  have hval : ∀ (j : Nat) t v, Try.f6.params[j]? = some t → args[j]? = some v → Value.okWide Try.prog W .any base t v := hval0
  have hW' := hW
  obtain ⟨p, q, hA0, hV, rfl, hfz, hnd⟩ := hW
  have hA : DataW.TrodAll enc Try.prog W 0 (fun _ => true) true Try.f6.params.toList args.toList ds p := hA0
  rw [Try.params6] at hA hval
  obtain ⟨v0, vs0, d0, ds0, p0, q0, hargs, rfl, rfl, h0, r0⟩ := trodAll_cons hA
  obtain ⟨v1, vs1, d1, ds1, p1, q1, rfl, rfl, rfl, h1, r1⟩ := trodAll_cons r0
  obtain ⟨v2, vs2, d2, ds2, p2, q2, rfl, rfl, rfl, h2, r2⟩ := trodAll_cons r1
  obtain ⟨rfl, rfl, rfl⟩ := trodAll_nil r2
  obtain rfl : args = #[v0, v1, v2] := by cases args; simp_all
  obtain ⟨rfl, rfl⟩ := trodVars_none hV
  have k0 := h0
  have lt0 : ∀ x ∈ p0, x.block < W.heap.size := by obtain ⟨m, hm⟩ := k0; exact DataW.trod_lt m _ _ _ hm
  obtain ⟨a0_0, a0_5, a0, len0, cap0, z0, rfl, w0_0, w0_5, w0⟩ := Op.open_tree (f := 9) (e1 := 31) (e := 72) Try.underlying38 (by kernel_rfl) (by kernel_rfl) (by kernel_rfl) (by kernel_rfl) ⟨rfl, rfl, rfl⟩ ⟨by kernel_rfl, by kernel_rfl, by kernel_rfl⟩ (by kernel_rfl) (by kernel_rfl) (by kernel_rfl) (by kernel_rfl) (hval 0 38 v0 rfl rfl) h0
  obtain ⟨a1, rfl, rfl, rfl, w1⟩ := open_int Try.underlying41 (hval 1 41 v1 rfl rfl) h1
  obtain ⟨a2, rfl, rfl, rfl, w2⟩ := open_int Try.underlying41 (hval 2 41 v2 rfl rfl) h2
  clear hA0 hval0
  refine (walk a0_0 a0_5 a0 len0 cap0 z0 a1 a2 W w0_0 w0_5 w0 w1 w2).mono fun e W' ⟨he, bel⟩ => ?_
  subst he
  exact ⟨_, rfl, _, _, _, [], _, [], hW', trodAll_mk1 (shut_bool Try.underlying4 _), (trodAll_cons_mk (Below.trod laidOut (by kernel_rfl) (of_decide_eq_true (by kernel_rfl)) k0 bel lt0) (trodAll_cons_mk (shut_int Try.underlying41 w1) (trodAll_cons_mk (shut_int Try.underlying41 w2) trodAll_mk0))), rfl, bel.frame _, fun h => by cases h⟩

theorem over : Rows.replayNeverRow.holds Try.pinned (OpenSpec.ofChange Rows.replayNeverSpec) :=
  OpenClaim.holds_of_wide 6 Try.f6 rfl rfl rfl rfl rfl rfl rfl ⟨rfl, rfl, rfl, rfl, rfl⟩ rfl rfl rfl rfl rfl (by kernel_rfl) Try.func6 (by kernel_rfl)
    (of_decide_eq_true (by kernel_rfl)) (by unfold Func.isWrapper; first | (rw [if_pos (by decide +kernel)]; kernel_rfl) | (rw [if_neg (by decide +kernel)]; exact ⟨rfl, rfl⟩))
    (fun os started H enc _ => lifted os started H enc)

/-- The statement. -/
theorem proved : Rows.ReplayNeverSaid := over
#print axioms proved
end Go.Proofs.Ytpdhkpgnajfobaa.replayNever
