/-
  'skylight/skylightlaw09.CheckMade' returns true for every input, and the input reads afterwards as it read before. Conditions: none.
-/
import Derived.Test.YtoplbjanemjebaaRows
import Derived.WalkKit
import Derived.ProofKit
import Derived.OpenShut
import Derived.ShutString
import Derived.ChangeOld
import Derived.Below
import Derived.Test.YtoplbjanemjebaaOpen
import Derived.Test.YtoplbjanemjebaaCkAwk
import Derived.Test.YtoplbjanemjebaaXDrop
namespace Go.Proofs.Ytoplbjanemjebaa.checkMade
open Go.Proofs Go.Proofs.Rn Go.Proofs.Op Go.Proofs.Rw Go.Proofs.Lm Go.Proofs.Lh Go.Proofs.Rf
open Go.ChangeShapes Go.WideShapes Go.ChangeAt Go.RowKit
open Go.ChangeMaps (open_string shut_string)
set_option linter.unusedVariables false

theorem own : ownKnob Try.prog.godebug = none := by kernel_rfl
theorem laidOut : laidOutB Try.prog = true := by kernel_rfl

/-- A slice of integers that came in: nil, or a row of cells of its capacity, each fitting its kind. -/
def IsRow (k : IntKind) (w : World) (a : Option Addr) (len cap : Nat) (zs : List Int) : Prop :=
  (a = none ∧ len = 0 ∧ cap = 0 ∧ zs = []) ∨
  ∃ x, a = some x ∧ len ≤ cap ∧ cap ≤ maxLen ∧ zs.length = cap ∧ (∀ i, i < zs.length → w.cell? (x.add i) = some (.int k (zs.getD i 0))) ∧ ∀ n ∈ zs, (Lit.int k n).wf = true

theorem fit2_of {c : List Value} (h : Op.Fits [.u64, .u64] c) : ∃ x0 x1 : Int, c = [.int .u64 x0, .int .u64 x1] ∧ (Lit.int .u64 x0).wf = true ∧ (Lit.int .u64 x1).wf = true := by
  cases c with
  | nil => exact h.elim
  | cons y0 c =>
  have g0 := h.1
  replace h := h.2
  cases c with
  | nil => exact h.elim
  | cons y1 c =>
  have g1 := h.1
  replace h := h.2
  cases c with
  | cons y c => exact h.elim
  | nil =>
  obtain ⟨x0, e0, e0w⟩ := g0
  obtain ⟨x1, e1, e1w⟩ := g1
  exact ⟨x0, x1, by rw [e0, e1], e0w, e1w⟩

open Go.RowKit Go.Shelf Go.Proofs.Rw Go.Proofs.Lh Go.Proofs.Rf

set_option maxRecDepth 100000 in
set_option maxHeartbeats 4000000 in
theorem walk (a0 : Int) (a1 : Option Addr) (len1 cap1 : Nat) (z1 : Nat → Nat → Int) (a2_0 a2_1 : Int) (w : World) (w0 : (Lit.int .i64 a0).wf = true) (w1 : Op.FlatRow [.u64, .u64] w a1 len1 cap1 z1) (w2_0 : (Lit.int .u64 a2_0).wf = true) (w2_1 : (Lit.int .u64 a2_1).wf = true) :
    Calls Try.prog 4 #[.int .i64 a0, .slice a1 len1 cap1, .agg #[.int .u64 a2_0, .int .u64 a2_1]] w fun e w' => e = .returned (.bool true) ∧ Below w.heap.size w w' := by
  obtain ⟨ds, hdl1, hdL1, hdB1⟩ := sp_of_row w1
  have hD1 : Deeds w a1 len1 cap1 ds := ⟨hdl1, hdL1, hdB1⟩
  obtain ⟨b00, b01⟩ := bounds_i64 w0
  have hk1 := kOf_le a0
  have hdn1 : doneN ds ≤ ds.length := by unfold doneN; omega
  have hmd : Made (kOf a0) (play (kOf a0) ds (doneN ds)).2 := play_made hk1.1 (by omega) ds _ hdn1
  have hma := fun (W : World) (hW : Below w.heap.size w W) => rmade_any a0 b00 (by omega) ds W a1 len1 cap1 (hD1.grow hW)
  obtain ⟨c00, c01⟩ := bounds_u64 w2_0
  obtain ⟨n0, rfl⟩ : ∃ n : Nat, a2_0 = (n : Int) := ⟨a2_0.toNat, by omega⟩
  have hb0 : n0 < 18446744073709551616 := by omega
  clear c00 c01 w2_0
  obtain ⟨c10, c11⟩ := bounds_u64 w2_1
  obtain ⟨n1, rfl⟩ : ∃ n : Nat, a2_1 = (n : Int) := ⟨a2_1.toNat, by omega⟩
  have hb1 : n1 < 18446744073709551616 := by omega
  clear c10 c11 w2_1
  have hall := play_all hk1.1 (by omega) ds (doneN ds) hdn1
  have hd30 : doneN ds ≤ 30 := by unfold doneN; omega
  obtain ⟨kk, hkk⟩ : ∃ x, kOf a0 = x := ⟨_, rfl⟩
  rw [hkk] at hmd
  simp only [hkk] at hma
  obtain ⟨L, hL⟩ : ∃ x, (play kk ds (doneN ds)).2 = x := ⟨_, rfl⟩
  rw [hL] at hmd
  simp only [hL] at hma
  obtain ⟨N, hN⟩ : ∃ x, L.length = x := ⟨_, rfl⟩
  simp only [hN] at hma
  have hln : N ≤ 53 := by have := hmd.len; omega
  have HMA := Lib.hid hma
  have HN := Lib.hid hN
  have HMD := Lib.hid hmd
  simp only [hkk, hL] at hall
  have hmax : ∀ x ∈ allOf L, x.2 ≤ 9223372036854775807 := fun x hx => by have := hall x hx; omega
  have HMAX := Lib.hid hmax
  clear hall hmax hd30
  clear hma hmd hN hD1 hdl1 hdL1 hdB1 hkk hL w1 hdn1 hk1 w0
  have hbx : (w.alloc (.cells #[.int .u64 (n0 : Int), .int .u64 (n1 : Int)] 39)).heap[w.heap.size]? = some (.cells #[.int .u64 (n0 : Int), .int .u64 (n1 : Int)] 39) := heap_alloc_new w _
  have HBX := Lib.hid hbx
  clear hbx
  go_enter Try.func4, Try.ntmps4
  go_upto_region 3 with (first
    | (go_at_call 8; refine (awake_any _).mono ?_; rintro e wa ⟨rfl, ha⟩; have t := (ha.block w.heap.size (by simp)).trans HBX.out; have HX := Lib.hid t; have HLX := Lib.hid (lt_of t); have HWA := Lib.hid (((Below.refl _ w).alloc (Nat.le_refl _) _).trans (ha.mono (by simp))); clear ha t)
    | (go_at_call 17; refine (HMA.out wa HWA.out).mono ?_; rintro e wb ⟨A, c, rfl, hL, hb⟩; have HL1 := Lib.hid hL; have HB1 := Lib.hid hb; clear hL hb)
    | (go_at_call 11; refine (lmade_any _ _ _ _ _ _).mono ?_; rintro e wc ⟨rfl, hb⟩; have HL2 := Lib.hid (HL1.out.grow hb); have HB2 := Lib.hid (thn HB1.out hb); clear hb))
  obtain ⟨W4, hW4⟩ : ∃ W, wc.alloc (.cells #[.int .i64 (kk : Int), .int .i64 0, .slice A N c] 32) = W := ⟨_, rfl⟩
  have hB4 : Below wc.heap.size wc W4 := by rw [← hW4]; exact (Below.refl _ wc).alloc (Nat.le_refl _) _
  have pH : W4.heap[wc.heap.size]? = some (.cells #[.int .i64 (kk : Int), .int .i64 0, .slice A N c] 32) := by rw [← hW4]; exact heap_alloc_new wc _
  have pX := (hB4.block _ (Nat.lt_of_lt_of_le HLX.out HB2.out.size)).trans ((HB2.out.block _ HLX.out).trans HX.out)
  rw [hW4]
  obtain ⟨bX, hbX⟩ : ∃ b, w.heap.size = b := ⟨_, rfl⟩
  obtain ⟨bH, hbH⟩ : ∃ b, wc.heap.size = b := ⟨_, rfl⟩
  rw [hbX] at pX ⊢
  rw [hbH] at pH ⊢
  have HL4 := Lib.hid (HL2.out.grow hB4)
  have HB4 := Lib.hid (thn (thn HWA.out HB2.out) hB4)
  have PH := Lib.hid pH
  have PX := Lib.hid pX
  have LH := Lib.hid (lt_of pH)
  have LX := Lib.hid (lt_of pX)
  obtain ⟨y0, y1, y2⟩ := box3 pH
  have Y0 := Lib.hid y0
  have Y1 := Lib.hid y1
  have Y2 := Lib.hid y2
  have x0 : W4.cell? ⟨bX, 0, none⟩ = some (.int .u64 (n0 : Int)) := by simp [World.cell?, pX]
  have X0 := Lib.hid x0
  have x1 : W4.cell? ⟨bX, 1, none⟩ = some (.int .u64 (n1 : Int)) := by simp [World.cell?, pX]
  have X1 := Lib.hid x1
  clear x0 x1 y0 y1 y2 pH pX hW4 hB4 hbX hbH HL1 HL2 HB1 HB2 HWA HX HLX HMA HBX
  obtain ⟨D, hDD⟩ : ∃ x, dropL n0 n1 L = x := ⟨_, rfl⟩
  obtain ⟨M, hMD⟩ : ∃ x, D.length = x := ⟨_, rfl⟩
  have hmd2 := HMD.out.drop n0 n1
  have hmax2 : ∀ x ∈ allOf (dropL n0 n1 L), x.2 ≤ 9223372036854775807 := fun x hx => by
    rw [all_drop] at hx
    exact HMAX.out x (List.mem_filter.1 hx).1
  rw [hDD] at hmd2 hmax2
  have hd : ∀ W : World, Grows W4 W → Calls Try.prog 18 #[.agg #[.int .i64 (kk : Int), .int .i64 0, .slice A N c], .int .u64 (n0 : Int), .int .u64 (n1 : Int)] W fun e w' => ∃ A' c', e = .returned (.agg #[.int .i64 (kk : Int), .int .i64 0, .slice A' M c']) ∧ Levs w' w'.heap.size (.slice A' M c') D ∧ Below W.heap.size W w' := by
    intro W hW
    have := drop_any kk 0 L HMD.out n0 n1 (by omega) W A c (by rw [HN.out]; exact HL4.out.grow hW)
    rw [hDD, hMD, HN.out] at this
    exact this
  have HD := Lib.hid hd
  clear hd
  have CH' : ∀ (W : World) (A' : Option Addr) (c' : Nat), Levs W W.heap.size (.slice A' N c') L → Calls Try.prog 10 #[.agg #[.int .i64 (kk : Int), .int .i64 0, .slice A' N c']] W fun e w' => e = .returned (.int .i64 0) ∧ Below W.heap.size W w' := by
    intro W A' c' hL
    have := hist_any (kk : Int) 0 L (by have := HMD.out.len; omega) (fun i => by have := HMD.out.lev i; omega) W A' c' (by rw [HN.out]; exact hL.reads)
    rw [HMD.out.chk HMAX.out, HN.out] at this
    exact this
  have CH := Lib.hid CH'
  clear CH'
  have CHD' : ∀ (W : World) (A' : Option Addr) (c' : Nat), Levs W W.heap.size (.slice A' M c') D → Calls Try.prog 10 #[.agg #[.int .i64 (kk : Int), .int .i64 0, .slice A' M c']] W fun e w' => e = .returned (.int .i64 0) ∧ Below W.heap.size W w' := by
    intro W A' c' hL
    have := hist_any (kk : Int) 0 D (by have := hmd2.len; omega) (fun i => by have := hmd2.lev i; omega) W A' c' (by rw [hMD]; exact hL.reads)
    rw [hmd2.chk hmax2, hMD] at this
    exact this
  have CHD := Lib.hid CHD'
  clear CHD'
  clear hmd2 hmax2 hMD hDD
  have tH := PH.out
  have tX := PX.out
  obtain ⟨y0, y1, y2⟩ := box3 tH
  have lH := LH.out
  have lX := LX.out
  clear tH tX
  go_wp2_with (first
    | (go_at_call 10; (with_reducible refine (CH.out _ _ _ HL4.out).mono ?_); rintro e w5 ⟨rfl, hb5⟩; have HB5 := Lib.hid hb5; obtain ⟨z0, z1, z2⟩ := box3 ((hb5.block bH LH.out).trans PH.out); have v0 := (hb5.cell (p := ⟨bX, 0, none⟩) LX.out).trans X0.out; have v1 := (hb5.cell (p := ⟨bX, 1, none⟩) LX.out).trans X1.out; have l5 := Nat.lt_of_lt_of_le LH.out hb5.size; have m5 := Nat.lt_of_lt_of_le LX.out hb5.size; clear hb5)
    | (go_at_call 18; refine (HD.out _ HB5.out).mono ?_; rintro e w6 ⟨A6, c6, rfl, hL6, hb6⟩; have HL6 := Lib.hid hL6; have HB6 := Lib.hid (thn HB5.out hb6); clear hb6 hL6)
    | (go_at_call 10; (with_reducible refine (CHD.out _ _ _ HL6.out).mono ?_); rintro e w7 ⟨rfl, hb7⟩; have HB7 := Lib.hid (thn HB6.out hb7); clear hb7))
  go_ret
  exact ⟨rfl, thn HB4.out HB7.out⟩

set_option maxRecDepth 100000 in
theorem lifted (os : Os) (started : os.Started) (H : Type) (enc : TypeId × Value → H) :
    ReturnsInHanded {} Try.checked os 4 .any (Rows.checkMadeSpec.pre6 enc Try.prog Try.f4 Rows.checkMadeRow.domain false) (Rows.checkMadeSpec.post enc Try.prog Try.f4 false true false false) := by
  refine returnsInHanded_of_change (C := Try.checked) own started (by kernel_rfl) Try.func4
    (ChangeSpec.witness6 (enc := enc) (C := Try.checked) false ⟨#[], #[.int .i64 0, .slice none 0 0, .agg #[.int .u64 0, .int .u64 0]], []⟩ 8 (by kernel_rfl) (by kernel_rfl) (by kernel_rfl) (by kernel_rfl)) ?_
  intro W base args ds gs before hval0 hW hcnd _
  have hval : ∀ (j : Nat) t v, Try.f4.params[j]? = some t → args[j]? = some v → Value.okWide Try.prog W .any base t v := hval0
  have hW' := hW
  obtain ⟨p, q, hA0, hV, rfl, hfz, hnd⟩ := hW
  have hA : DataW.TrodAll enc Try.prog W 0 (fun _ => true) true Try.f4.params.toList args.toList ds p := hA0
  rw [Try.params4] at hA hval
  obtain ⟨v0, vs0, d0, ds0, p0, q0, hargs, rfl, rfl, h0, r0⟩ := trodAll_cons hA
  obtain ⟨v1, vs1, d1, ds1, p1, q1, rfl, rfl, rfl, h1, r1⟩ := trodAll_cons r0
  obtain ⟨v2, vs2, d2, ds2, p2, q2, rfl, rfl, rfl, h2, r2⟩ := trodAll_cons r1
  obtain ⟨rfl, rfl, rfl⟩ := trodAll_nil r2
  obtain rfl : args = #[v0, v1, v2] := by cases args; simp_all
  obtain ⟨rfl, rfl⟩ := trodVars_none hV
  obtain ⟨a0, rfl, rfl, rfl, w0⟩ := open_int Try.underlying3 (hval 0 3 v0 rfl rfl) h0
  obtain ⟨a1, len1, cap1, rfl⟩ := okWide_slice Try.underlying38 (hval 1 38 v1 rfl rfl)
  have k1 := h1
  have lt1 : ∀ x ∈ p1, x.block < W.heap.size := by obtain ⟨m, hm⟩ := k1; exact DataW.trod_lt m _ _ _ hm
  obtain ⟨z1, w1⟩ := Op.open_flats (f := 9) (ks := [.u64, .u64]) Try.underlying38 (by kernel_rfl) (by kernel_rfl) (by decide) h1
  have k2 := h2
  have lt2 : ∀ x ∈ p2, x.block < W.heap.size := by obtain ⟨m, hm⟩ := k2; exact DataW.trod_lt m _ _ _ hm
  obtain ⟨c2, rfl, fit2⟩ := Op.open_flat (f := 9) (ks := [.u64, .u64]) (by kernel_rfl) (by kernel_rfl) (hval 2 39 v2 rfl rfl) h2
  obtain ⟨a2_0, a2_1, rfl, w2_0, w2_1⟩ := fit2_of fit2
  clear hA0 hval0
  refine (walk a0 a1 len1 cap1 z1 a2_0 a2_1 W w0 w1 w2_0 w2_1).mono fun e W' ⟨he, bel⟩ => ?_
  subst he
  exact ⟨_, rfl, _, _, _, [], _, [], hW', trodAll_mk1 (shut_bool Try.underlying4 _), (trodAll_cons_mk (shut_int Try.underlying3 w0) (trodAll_cons_mk (Below.trod laidOut (by kernel_rfl) (of_decide_eq_true (by kernel_rfl)) k1 bel lt1) (trodAll_cons_mk (Below.trod laidOut (by kernel_rfl) (of_decide_eq_true (by kernel_rfl)) k2 bel lt2) trodAll_mk0))), rfl, bel.frame _, fun h => by cases h⟩

theorem over : Rows.checkMadeRow.holds Try.pinned (OpenSpec.ofChange Rows.checkMadeSpec) :=
  OpenClaim.holds_of_wide 4 Try.f4 rfl rfl rfl rfl rfl rfl rfl ⟨rfl, rfl, rfl, rfl, rfl⟩ rfl rfl rfl rfl rfl (by kernel_rfl) Try.func4 (by kernel_rfl)
    (of_decide_eq_true (by kernel_rfl)) (by unfold Func.isWrapper; first | (rw [if_pos (by decide +kernel)]; kernel_rfl) | (rw [if_neg (by decide +kernel)]; exact ⟨rfl, rfl⟩))
    (fun os started H enc _ => lifted os started H enc)

/-- The statement. -/
theorem proved : Rows.CheckMadeSaid := over
#print axioms proved
end Go.Proofs.Ytoplbjanemjebaa.checkMade
