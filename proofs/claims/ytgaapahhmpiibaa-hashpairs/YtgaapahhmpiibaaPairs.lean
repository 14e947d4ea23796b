/-
  'skylight/skylightlaw04.HashPairs' returns true for every input, and the input reads afterwards as it read before. Conditions: none.
-/
import Derived.Test.YtgaapahhmpiibaaRows
import Derived.WalkKit
import Derived.ProofKit
import Derived.OpenShut
import Derived.ShutString
import Derived.ChangeOld
import Derived.Below
import Derived.Test.YtgaapahhmpiibaaOpen
import Derived.Test.YtgaapahhmpiibaaHAwake
namespace Go.Proofs.Ytgaapahhmpiibaa.hashPairs
open Go.Proofs Go.Proofs.Wm Go.Proofs.Rf
open Go.ChangeShapes Go.WideShapes Go.ChangeAt Go.RowKit
open Go.ChangeMaps (open_string shut_string)
set_option linter.unusedVariables false

theorem own : ownKnob Try.prog.godebug = none := by kernel_rfl
theorem laidOut : laidOutB Try.prog = true := by kernel_rfl

/-- A slice of integers that came in: nil, or a row of cells of its capacity, each fitting its kind. -/
def IsRow (k : IntKind) (w : World) (a : Option Addr) (len cap : Nat) (zs : List Int) : Prop :=
  (a = none ∧ len = 0 ∧ cap = 0 ∧ zs = []) ∨
  ∃ x, a = some x ∧ len ≤ cap ∧ cap ≤ maxLen ∧ zs.length = cap ∧ (∀ i, i < zs.length → w.cell? (x.add i) = some (.int k (zs.getD i 0))) ∧ ∀ n ∈ zs, (Lit.int k n).wf = true

theorem fit0_of {c : List Value} (h : Op.Fits [.u64, .u64] c) : ∃ x0 x1 : Int, c = [.int .u64 x0, .int .u64 x1] ∧ (Lit.int .u64 x0).wf = true ∧ (Lit.int .u64 x1).wf = true := by
  match c, h with
  | [_, _], ⟨⟨x0, e0, e0w⟩, ⟨x1, e1, e1w⟩, _⟩ =>
    subst e0; subst e1
    exact ⟨x0, x1, rfl, e0w, e1w⟩

theorem fit1_of {c : List Value} (h : Op.Fits [.u64, .u64] c) : ∃ x0 x1 : Int, c = [.int .u64 x0, .int .u64 x1] ∧ (Lit.int .u64 x0).wf = true ∧ (Lit.int .u64 x1).wf = true := by
  match c, h with
  | [_, _], ⟨⟨x0, e0, e0w⟩, ⟨x1, e1, e1w⟩, _⟩ =>
    subst e0; subst e1
    exact ⟨x0, x1, rfl, e0w, e1w⟩

theorem col_prime {a b x : Nat} (h : 1 ≤ a ∧ a < 2305843009213693951 ∧ b < 2305843009213693951) (hx : x < 2305843009213693951) : col a b x 2305843009213693951 = (addM (mulM a x) b : Nat) := by
  unfold col
  rw [if_neg (by decide), if_neg (by rw [may_iff.2 h]; decide), if_neg (by unfold keyB; rw [decide_eq_true hx]; decide)]
  rw [show (2305843009213693951 : Int).toNat = 2305843009213693951 from rfl, show addM (mulM a x) b % 2305843009213693951 = addM (mulM a x) b from Nat.mod_eq_of_lt (addM_lt _ _)]
theorem rest_nat (n : Nat) : ∃ x : Nat, (n : Int) % 2305843009213693951 = (x : Int) ∧ x < 2305843009213693951 := ⟨n % 2305843009213693951, by omega, by omega⟩
theorem box_cells2 {w wn : World} {a b c d : Value} {t : TypeId} (h : Below ((w.alloc (.cells #[a, b] t)).alloc (.cells #[c, d] t)).heap.size ((w.alloc (.cells #[a, b] t)).alloc (.cells #[c, d] t)) wn) :
    wn.cell? ⟨w.heap.size, 0, none⟩ = some a ∧ wn.cell? ⟨w.heap.size, 1, none⟩ = some b ∧ wn.cell? ⟨w.heap.size + 1, 0, none⟩ = some c ∧ wn.cell? ⟨w.heap.size + 1, 1, none⟩ = some d := by
  obtain ⟨h1, h2⟩ := box_cells h
  have h3 : Below (w.alloc (.cells #[a, b] t)).heap.size (w.alloc (.cells #[a, b] t)) wn := (below_row _ _).trans (h.mono (by simp))
  obtain ⟨h4, h5⟩ := box_cells h3
  rw [World.size_alloc] at h1 h2
  exact ⟨h4, h5, h1, h2⟩

set_option maxRecDepth 100000 in
set_option maxHeartbeats 4000000 in
theorem walk (a0_0 a0_1 : Int) (a1_0 a1_1 : Int) (w : World) (w0_0 : (Lit.int .u64 a0_0).wf = true) (w0_1 : (Lit.int .u64 a0_1).wf = true) (w1_0 : (Lit.int .u64 a1_0).wf = true) (w1_1 : (Lit.int .u64 a1_1).wf = true) :
    Calls Try.prog 6 #[.agg #[.int .u64 a0_0, .int .u64 a0_1], .agg #[.int .u64 a1_0, .int .u64 a1_1]] w fun e w' => e = .returned (.bool true) ∧ Below w.heap.size w w' := by
  obtain ⟨ba0_0_0, ba0_0_1⟩ := bounds_u64 w0_0
  obtain ⟨kx, rfl⟩ : ∃ m : Nat, a0_0 = m := ⟨a0_0.toNat, by omega⟩
  obtain ⟨ba0_1_0, ba0_1_1⟩ := bounds_u64 w0_1
  obtain ⟨ky, rfl⟩ : ∃ m : Nat, a0_1 = m := ⟨a0_1.toNat, by omega⟩
  obtain ⟨ba1_0_0, ba1_0_1⟩ := bounds_u64 w1_0
  obtain ⟨ru, rfl⟩ : ∃ m : Nat, a1_0 = m := ⟨a1_0.toNat, by omega⟩
  obtain ⟨ba1_1_0, ba1_1_1⟩ := bounds_u64 w1_1
  obtain ⟨rv, rfl⟩ : ∃ m : Nat, a1_1 = m := ⟨a1_1.toNat, by omega⟩
  have hkx : kx < 18446744073709551616 := by omega
  have hky : ky < 18446744073709551616 := by omega
  have hru : ru < 18446744073709551616 := by omega
  have hrv : rv < 18446744073709551616 := by omega
  clear w0_0 ba0_0_0 ba0_0_1 w0_1 ba0_1_0 ba0_1_1 w1_0 ba1_0_0 ba1_0_1 w1_1 ba1_1_0 ba1_1_1
  obtain ⟨x, ex, lx⟩ := rest_nat kx
  obtain ⟨y, ey, ly⟩ := rest_nat ky
  obtain ⟨u, eu, lu⟩ := rest_nat ru
  obtain ⟨v, ev, lv⟩ := rest_nat rv
  have hB : Below w.heap.size w ((w.alloc (.cells #[.int .u64 kx, .int .u64 ky] 36)).alloc (.cells #[.int .u64 ru, .int .u64 rv] 36)) := (below_row w _).alloc (by simp) _
  by_cases hxy : x = y
  · subst hxy
    go_enter Try.func6, Try.ntmps6
    go_wp2_with (go_at_call 8; refine (awake_any _).mono ?_; rintro e wn ⟨rfl, hn⟩; obtain ⟨s0, s1, s2, s3⟩ := box_cells2 hn; replace hB := hB.trans (hn.mono hB.size); clear hn)
    go_ret
    exact ⟨rfl, hB⟩
  · have n1 : ((x : Int) == (y : Int)) = false := by rw [beq_eq_false_iff_ne]; omega
    by_cases huv : u = v
    · subst huv
      go_enter Try.func6, Try.ntmps6
      go_wp2_with (go_at_call 8; refine (awake_any _).mono ?_; rintro e wn ⟨rfl, hn⟩; obtain ⟨s0, s1, s2, s3⟩ := box_cells2 hn; replace hB := hB.trans (hn.mono hB.size); clear hn)
      go_ret
      exact ⟨rfl, hB⟩
    · have n2 : ((u : Int) == (v : Int)) = false := by rw [beq_eq_false_iff_ne]; omega
      have HS := Lib.hid (solve_any x y u v lx ly lu lv hxy huv)
      clear hxy huv
      go_enter Try.func6, Try.ntmps6
      go_upto_region 9 with (first
        | (go_at_call 8; refine (awake_any _).mono ?_; rintro e wn ⟨rfl, hn⟩; obtain ⟨s0, s1, s2, s3⟩ := box_cells2 hn; replace hB := hB.trans (hn.mono hB.size); clear hn)
        | (go_at_call 16; (with_reducible refine (HS.out _).mono ?_); rintro e ws ⟨A, B, rfl, hab, hA1, hA2, hn⟩; replace hB := hB.trans (hn.mono hB.size); clear hn s0 s1 s2 s3))
      have lA : A < 18446744073709551616 := by omega
      have lB : B < 18446744073709551616 := by omega
      have m1 := column_any A B x lA lB (by omega) 2305843009213693951 (by decide) (by decide)
      have m2 := column_any A B y lA lB (by omega) 2305843009213693951 (by decide) (by decide)
      have m3 := may_any A B lA lB
      rw [col_prime hab lx, hA1] at m1
      rw [col_prime hab ly, hA2] at m2
      rw [may_iff.2 hab] at m3
      have M1 := Lib.hid m1
      have M2 := Lib.hid m2
      have M3 := Lib.hid m3
      clear m1 m2 m3 hab hA1 hA2 HS
      go_wp2_with (first
        | (go_at_call 9; (with_reducible refine (M1.out _).mono ?_); rintro e w2 ⟨rfl, hn⟩; obtain ⟨s0, s1⟩ := box_cells hn; have hs := box_lt hn; replace hB := (hB.alloc hB.size _).trans (hn.mono (by have := hB.size; simp; omega)); clear hn)
        | (go_at_call 9; (with_reducible refine (M2.out _).mono ?_); rintro e w3 ⟨rfl, hn⟩; replace s0 := (hn.cell (p := ⟨ws.heap.size, 0, none⟩) hs).trans s0; replace s1 := (hn.cell (p := ⟨ws.heap.size, 1, none⟩) hs).trans s1; replace hs := Nat.lt_of_lt_of_le hs hn.size; replace hB := hB.trans (hn.mono hB.size); clear hn)
        | (go_at_call 11; (with_reducible refine (M3.out _).mono ?_); rintro e w4 ⟨rfl, hn⟩; replace hB := hB.trans (hn.mono hB.size); clear hn))
      go_ret
      exact ⟨rfl, hB⟩

set_option maxRecDepth 100000 in
theorem lifted (os : Os) (started : os.Started) (H : Type) (enc : TypeId × Value → H) :
    ReturnsInHanded {} Try.checked os 6 .any (Rows.hashPairsSpec.pre6 enc Try.prog Try.f6 Rows.hashPairsRow.domain false) (Rows.hashPairsSpec.post enc Try.prog Try.f6 false true false false) := by
  refine returnsInHanded_of_change (C := Try.checked) own started (by kernel_rfl) Try.func6
    (ChangeSpec.witness6 (enc := enc) (C := Try.checked) false ⟨#[], #[.agg #[.int .u64 0, .int .u64 0], .agg #[.int .u64 0, .int .u64 0]], []⟩ 8 (by kernel_rfl) (by kernel_rfl) (by kernel_rfl) (by kernel_rfl)) ?_
  intro W base args ds gs before hval0 hW hcnd _
  have hval : ∀ (j : Nat) t v, Try.f6.params[j]? = some t → args[j]? = some v → Value.okWide Try.prog W .any base t v := hval0
  have hW' := hW
  obtain ⟨p, q, hA0, hV, rfl, hfz, hnd⟩ := hW
  have hA : DataW.TrodAll enc Try.prog W 0 (fun _ => true) true Try.f6.params.toList args.toList ds p := hA0
  rw [Try.params6] at hA hval
  obtain ⟨v0, vs0, d0, ds0, p0, q0, hargs, rfl, rfl, h0, r0⟩ := trodAll_cons hA
  obtain ⟨v1, vs1, d1, ds1, p1, q1, rfl, rfl, rfl, h1, r1⟩ := trodAll_cons r0
  obtain ⟨rfl, rfl, rfl⟩ := trodAll_nil r1
  obtain rfl : args = #[v0, v1] := by cases args; simp_all
  obtain ⟨rfl, rfl⟩ := trodVars_none hV
  have k0 := h0
  have lt0 : ∀ x ∈ p0, x.block < W.heap.size := by obtain ⟨m, hm⟩ := k0; exact DataW.trod_lt m _ _ _ hm
  obtain ⟨c0, rfl, fit0⟩ := Op.open_flat (f := 9) (ks := [.u64, .u64]) (by kernel_rfl) (by kernel_rfl) (hval 0 36 v0 rfl rfl) h0
  obtain ⟨a0_0, a0_1, rfl, w0_0, w0_1⟩ := fit0_of fit0
  have k1 := h1
  have lt1 : ∀ x ∈ p1, x.block < W.heap.size := by obtain ⟨m, hm⟩ := k1; exact DataW.trod_lt m _ _ _ hm
  obtain ⟨c1, rfl, fit1⟩ := Op.open_flat (f := 9) (ks := [.u64, .u64]) (by kernel_rfl) (by kernel_rfl) (hval 1 36 v1 rfl rfl) h1
  obtain ⟨a1_0, a1_1, rfl, w1_0, w1_1⟩ := fit1_of fit1
  clear hA0 hval0
  refine (walk a0_0 a0_1 a1_0 a1_1 W w0_0 w0_1 w1_0 w1_1).mono fun e W' ⟨he, bel⟩ => ?_
  subst he
  exact ⟨_, rfl, _, _, _, [], _, [], hW', trodAll_mk1 (shut_bool Try.underlying4 _), (trodAll_cons_mk (Below.trod laidOut (by kernel_rfl) (of_decide_eq_true (by kernel_rfl)) k0 bel lt0) (trodAll_cons_mk (Below.trod laidOut (by kernel_rfl) (of_decide_eq_true (by kernel_rfl)) k1 bel lt1) trodAll_mk0)), rfl, bel.frame _, fun h => by cases h⟩

theorem over : Rows.hashPairsRow.holds Try.pinned (OpenSpec.ofChange Rows.hashPairsSpec) :=
  OpenClaim.holds_of_wide 6 Try.f6 rfl rfl rfl rfl rfl rfl rfl ⟨rfl, rfl, rfl, rfl, rfl⟩ rfl rfl rfl rfl rfl (by kernel_rfl) Try.func6 (by kernel_rfl)
    (of_decide_eq_true (by kernel_rfl)) (by unfold Func.isWrapper; first | (rw [if_pos (by decide +kernel)]; kernel_rfl) | (rw [if_neg (by decide +kernel)]; exact ⟨rfl, rfl⟩))
    (fun os started H enc _ => lifted os started H enc)

/-- The statement. -/
theorem proved : Rows.HashPairsSaid := over
#print axioms proved
end Go.Proofs.Ytgaapahhmpiibaa.hashPairs
