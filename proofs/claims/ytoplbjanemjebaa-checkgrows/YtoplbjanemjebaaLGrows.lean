/-
  'skylight/skylightlaw09.CheckGrows' returns true for every input, and the input reads afterwards as it read before. Conditions: none.
-/
import Derived.Test.YtoplbjanemjebaaRows
import Derived.WalkKit
import Derived.ProofKit
import Derived.OpenShut
import Derived.ShutString
import Derived.ChangeOld
import Derived.Below
import Derived.Test.YtoplbjanemjebaaOpen
import Derived.Test.YtoplbjanemjebaaCkAwk
namespace Go.Proofs.Ytoplbjanemjebaa.checkGrows
open Go.Proofs Go.Proofs.Rn Go.Proofs.Op Go.Proofs.Rw Go.Proofs.Lm Go.Proofs.Lh Go.Proofs.Rf
open Go.ChangeShapes Go.WideShapes Go.ChangeAt Go.RowKit
open Go.ChangeMaps (open_string shut_string)
set_option linter.unusedVariables false

theorem own : ownKnob Try.prog.godebug = none := by kernel_rfl
theorem laidOut : laidOutB Try.prog = true := by kernel_rfl

/-- A slice of integers that came in: nil, or a row of cells of its capacity, each fitting its kind. -/
def IsRow (k : IntKind) (w : World) (a : Option Addr) (len cap : Nat) (zs : List Int) : Prop :=
  (a = none ∧ len = 0 ∧ cap = 0 ∧ zs = []) ∨
  ∃ x, a = some x ∧ len ≤ cap ∧ cap ≤ maxLen ∧ zs.length = cap ∧ (∀ i, i < zs.length → w.cell? (x.add i) = some (.int k (zs.getD i 0))) ∧ ∀ n ∈ zs, (Lit.int k n).wf = true

theorem fit2_of {c : List Value} (h : Op.Fits [.u64, .u64] c) : ∃ x0 x1 : Int, c = [.int .u64 x0, .int .u64 x1] ∧ (Lit.int .u64 x0).wf = true ∧ (Lit.int .u64 x1).wf = true := by
  cases c with
  | nil => exact h.elim
  | cons y0 c =>
  have g0 := h.1
  replace h := h.2
  cases c with
  | nil => exact h.elim
  | cons y1 c =>
  have g1 := h.1
  replace h := h.2
  cases c with
  | cons y c => exact h.elim
  | nil =>
  obtain ⟨x0, e0, e0w⟩ := g0
  obtain ⟨x1, e1, e1w⟩ := g1
  exact ⟨x0, x1, by rw [e0, e1], e0w, e1w⟩

open Go.RowKit Go.Shelf Go.Proofs.Rw Go.Proofs.Lh Go.Proofs.Rf

set_option maxRecDepth 100000 in
set_option maxHeartbeats 4000000 in
theorem walk (a0 : Int) (a1 : Int) (a2_0 a2_1 : Int) (w : World) (w0 : (Lit.int .i64 a0).wf = true) (w1 : (Lit.int .i64 a1).wf = true) (w2_0 : (Lit.int .u64 a2_0).wf = true) (w2_1 : (Lit.int .u64 a2_1).wf = true) :
    Calls Try.prog 7 #[.int .i64 a0, .int .i64 a1, .agg #[.int .u64 a2_0, .int .u64 a2_1]] w fun e w' => e = .returned (.bool true) ∧ Below w.heap.size w w' := by
  obtain ⟨c00, c01⟩ := bounds_u64 w2_0
  obtain ⟨n0, rfl⟩ : ∃ n : Nat, a2_0 = (n : Int) := ⟨a2_0.toNat, by omega⟩
  have hb0 : n0 < 18446744073709551616 := by omega
  clear c00 c01 w2_0
  obtain ⟨c10, c11⟩ := bounds_u64 w2_1
  obtain ⟨n1, rfl⟩ : ∃ n : Nat, a2_1 = (n : Int) := ⟨a2_1.toNat, by omega⟩
  have hb1 : n1 < 18446744073709551616 := by omega
  clear c10 c11 w2_1
  obtain ⟨b00, b01⟩ := bounds_i64 w0
  obtain ⟨b10, b11⟩ := bounds_i64 w1
  obtain ⟨x, hx⟩ : ∃ x : Nat, 2 + (max a0 0) % 1023 = (x : Int) := ⟨(2 + (max a0 0) % 1023).toNat, by omega⟩
  obtain ⟨g, hg⟩ : ∃ g : Nat, (max a1 0) % 4 = (g : Int) := ⟨((max a1 0) % 4).toNat, by omega⟩
  have hx2 : 2 ≤ x := by omega
  have hx3 : x ≤ 1024 := by omega
  have hg3 : g ≤ 3 := by omega
  obtain ⟨n, hn⟩ : ∃ n : Nat, 1 + n0 % 4611686018427387904 = n := ⟨_, rfl⟩
  have hn1 : n ≠ 0 := by omega
  have hn2 : n ≤ 4611686018427387904 := by omega
  have hni : 1 + (n0 : Int) % 4611686018427387904 = (n : Int) := by omega
  obtain ⟨ra, hra⟩ : ∃ r, boundN x g (min n0 n1) = r := ⟨_, rfl⟩
  obtain ⟨rb, hrb⟩ : ∃ r, boundN x g (max n0 n1) = r := ⟨_, rfl⟩
  obtain ⟨rc, hrc⟩ : ∃ r, boundN x g n = r := ⟨_, rfl⟩
  have hab : ra ≤ rb := by
    rw [← hra, ← hrb]
    exact bound_mono (x : Int) (g : Int) (show min n0 n1 ≤ max n0 n1 by omega)
  have hc2 : boundN x g (2 * n) = rc + x + 1 := by rw [bound_two hx2 hx3 (by omega) hn1, hrc]
  have hcg : boundN x ((g + 1 : Nat) : Int) n = rc + x + 1 := by rw [bound_gen hx2 hx3 (by omega) hn1, hrc]
  have hcl := bound_le (x : Int) (g : Int) n (by omega)
  rw [hrc] at hcl
  have ca := fun W => bound_any (x : Int) (g : Int) (min n0 n1) (by omega) W
  have cb := fun W => bound_any (x : Int) (g : Int) (max n0 n1) (by omega) W
  have cc := fun W => bound_any (x : Int) (g : Int) n (by omega) W
  have cd := fun W => bound_any (x : Int) (g : Int) (2 * n) (by omega) W
  have ce := fun W => bound_any (x : Int) ((g + 1 : Nat) : Int) n (by omega) W
  have c0 := fun W => bound_any (x : Int) (g : Int) 0 (by omega) W
  simp only [hra, show ((min n0 n1 : Nat) : Int) = min (n0 : Int) (n1 : Int) by omega] at ca
  simp only [hrb, show ((max n0 n1 : Nat) : Int) = max (n0 : Int) (n1 : Int) by omega] at cb
  simp only [hrc] at cc
  simp only [hc2] at cd
  simp only [hcg] at ce
  simp only [bound_none] at c0
  have c0' : ∀ W : World, Calls Try.prog 15 #[.int .i64 (x : Int), .int .i64 (g : Int), .int .u64 0] W fun e w' => e = .returned (.int .i64 0) ∧ W = w' := c0
  obtain ⟨rd, hrd⟩ : ∃ r : Nat, rc + x + 1 = r := ⟨_, rfl⟩
  simp only [hrd] at cd ce
  have hrdi : (rc : Int) + (x : Int) + 1 = (rd : Int) := by omega
  have hrdl : (rd : Int) ≤ 2000000 := by omega
  have hgi : (g : Int) + 1 = ((g + 1 : Nat) : Int) := by omega
  have hn2i : 2 * (n : Int) = ((2 * n : Nat) : Int) := by omega
  have dab : decide (ra ≤ rb) = true := by simpa using hab
  have CA := Lib.hid ca
  have CB := Lib.hid cb
  have CC := Lib.hid cc
  have CD := Lib.hid cd
  have CE := Lib.hid ce
  have C0 := Lib.hid c0'
  have HX := Lib.hid hx
  have HG := Lib.hid hg
  have HN := Lib.hid hni
  have HRD := Lib.hid hrdi
  have HGI := Lib.hid hgi
  have HN2 := Lib.hid hn2i
  clear ca cb cc cd ce c0 c0' hra hrb hrc hc2 hcg hrd hrdi hgi hn2i hab hn hni
  have hbx : (w.alloc (.cells #[.int .u64 (n0 : Int), .int .u64 (n1 : Int)] 39)).heap[w.heap.size]? = some (.cells #[.int .u64 (n0 : Int), .int .u64 (n1 : Int)] 39) := heap_alloc_new w _
  have HBX := Lib.hid hbx
  clear hbx
  go_enter Try.func7, Try.ntmps7
  go_upto_region 2 with (go_at_call 8; refine (awake_any _).mono ?_; rintro e wa ⟨rfl, ha⟩; have t := (ha.block w.heap.size (by simp)).trans HBX.out; have HT := Lib.hid t; have HWA := Lib.hid (((Below.refl _ w).alloc (Nat.le_refl _) _).trans (ha.mono (by simp))); clear ha t)
  have v0 : wa.cell? ⟨w.heap.size, 0, none⟩ = some (.int .u64 (n0 : Int)) := by simp [World.cell?, HT.out]
  have v1 : wa.cell? ⟨w.heap.size, 1, none⟩ = some (.int .u64 (n1 : Int)) := by simp [World.cell?, HT.out]
  have lX := lt_of HT.out
  go_cut [8] from 15 to 18 (fun s8 wx => s8 = .int .i64 (x : Int) ∧ wa = wx)
  case first =>
    by_cases h : 0 ≤ a0
    · have e := HX.out
      rw [Int.max_eq_left h] at e
      go_wp2
      go_meet
      case rel => exact ⟨rfl, rfl⟩
    · have e := HX.out
      rw [Int.max_eq_right (by omega)] at e
      have e2 : (x : Int) = 2 := by rw [← e]; rfl
      have E2 := Lib.hid e2
      clear e e2
      go_wp2
      go_meet
      case rel => exact ⟨by rw [E2.out], rfl⟩
  case rest =>
  obtain ⟨rfl, rfl⟩ := hcut
  go_upto_region 3 with (fail)
  go_cut [9] from 19 to 21 (fun s9 wx => s9 = .int .i64 (g : Int) ∧ wa = wx)
  case first =>
    go_wp2
    go_meet
    case rel => exact ⟨by rw [HG.out], rfl⟩
  case rest =>
  obtain ⟨rfl, rfl⟩ := hcut
  go_upto_region 7 with (first
    | (go_at_call 15; (with_reducible refine (CA.out _).mono ?_); rintro e w6 ⟨rfl, rfl⟩)
    | (go_at_call 15; (with_reducible refine (CB.out _).mono ?_); rintro e w6 ⟨rfl, rfl⟩))
  rw [HN.out]
  have r1 := HRD.out
  have r2 := HGI.out
  have r3 := HN2.out
  have b3 : ((2 * n : Nat) : Int) ≤ 18446744073709551615 := by omega
  have b4 : (rc : Int) + (x : Int) ≤ 2000000 := by omega
  generalize ((2 * n : Nat) : Int) = nn2 at *
  generalize ((g + 1 : Nat) : Int) = gg at *
  go_wp2_with (first
    | (go_at_call 15; (with_reducible refine (CC.out _).mono ?_); rintro e w6 ⟨rfl, rfl⟩)
    | (go_at_call 15; (with_reducible refine (CD.out _).mono ?_); rintro e w6 ⟨rfl, rfl⟩)
    | (go_at_call 15; (with_reducible refine (CE.out _).mono ?_); rintro e w6 ⟨rfl, rfl⟩)
    | (go_at_call 15; (with_reducible refine (C0.out _).mono ?_); rintro e w6 ⟨rfl, rfl⟩))
  go_ret
  exact ⟨rfl, HWA.out⟩

set_option maxRecDepth 100000 in
theorem lifted (os : Os) (started : os.Started) (H : Type) (enc : TypeId × Value → H) :
    ReturnsInHanded {} Try.checked os 7 .any (Rows.checkGrowsSpec.pre6 enc Try.prog Try.f7 Rows.checkGrowsRow.domain false) (Rows.checkGrowsSpec.post enc Try.prog Try.f7 false true false false) := by
  refine returnsInHanded_of_change (C := Try.checked) own started (by kernel_rfl) Try.func7
    (ChangeSpec.witness6 (enc := enc) (C := Try.checked) false ⟨#[], #[.int .i64 0, .int .i64 0, .agg #[.int .u64 0, .int .u64 0]], []⟩ 8 (by kernel_rfl) (by kernel_rfl) (by kernel_rfl) (by kernel_rfl)) ?_
  intro W base args ds gs before hval0 hW hcnd _
  have hval : ∀ (j : Nat) t v, Try.f7.params[j]? = some t → args[j]? = some v → Value.okWide Try.prog W .any base t v := hval0
  have hW' := hW
  obtain ⟨p, q, hA0, hV, rfl, hfz, hnd⟩ := hW
  have hA : DataW.TrodAll enc Try.prog W 0 (fun _ => true) true Try.f7.params.toList args.toList ds p := hA0
  rw [Try.params7] at hA hval
  obtain ⟨v0, vs0, d0, ds0, p0, q0, hargs, rfl, rfl, h0, r0⟩ := trodAll_cons hA
  obtain ⟨v1, vs1, d1, ds1, p1, q1, rfl, rfl, rfl, h1, r1⟩ := trodAll_cons r0
  obtain ⟨v2, vs2, d2, ds2, p2, q2, rfl, rfl, rfl, h2, r2⟩ := trodAll_cons r1
  obtain ⟨rfl, rfl, rfl⟩ := trodAll_nil r2
  obtain rfl : args = #[v0, v1, v2] := by cases args; simp_all
  obtain ⟨rfl, rfl⟩ := trodVars_none hV
  obtain ⟨a0, rfl, rfl, rfl, w0⟩ := open_int Try.underlying3 (hval 0 3 v0 rfl rfl) h0
  obtain ⟨a1, rfl, rfl, rfl, w1⟩ := open_int Try.underlying3 (hval 1 3 v1 rfl rfl) h1
  have k2 := h2
  have lt2 : ∀ x ∈ p2, x.block < W.heap.size := by obtain ⟨m, hm⟩ := k2; exact DataW.trod_lt m _ _ _ hm
  obtain ⟨c2, rfl, fit2⟩ := Op.open_flat (f := 9) (ks := [.u64, .u64]) (by kernel_rfl) (by kernel_rfl) (hval 2 39 v2 rfl rfl) h2
  obtain ⟨a2_0, a2_1, rfl, w2_0, w2_1⟩ := fit2_of fit2
  clear hA0 hval0
  refine (walk a0 a1 a2_0 a2_1 W w0 w1 w2_0 w2_1).mono fun e W' ⟨he, bel⟩ => ?_
  subst he
  exact ⟨_, rfl, _, _, _, [], _, [], hW', trodAll_mk1 (shut_bool Try.underlying4 _), (trodAll_cons_mk (shut_int Try.underlying3 w0) (trodAll_cons_mk (shut_int Try.underlying3 w1) (trodAll_cons_mk (Below.trod laidOut (by kernel_rfl) (of_decide_eq_true (by kernel_rfl)) k2 bel lt2) trodAll_mk0))), rfl, bel.frame _, fun h => by cases h⟩

theorem over : Rows.checkGrowsRow.holds Try.pinned (OpenSpec.ofChange Rows.checkGrowsSpec) :=
  OpenClaim.holds_of_wide 7 Try.f7 rfl rfl rfl rfl rfl rfl rfl ⟨rfl, rfl, rfl, rfl, rfl⟩ rfl rfl rfl rfl rfl (by kernel_rfl) Try.func7 (by kernel_rfl)
    (of_decide_eq_true (by kernel_rfl)) (by unfold Func.isWrapper; first | (rw [if_pos (by decide +kernel)]; kernel_rfl) | (rw [if_neg (by decide +kernel)]; exact ⟨rfl, rfl⟩))
    (fun os started H enc _ => lifted os started H enc)

/-- The statement. -/
theorem proved : Rows.CheckGrowsSaid := over
#print axioms proved
end Go.Proofs.Ytoplbjanemjebaa.checkGrows
