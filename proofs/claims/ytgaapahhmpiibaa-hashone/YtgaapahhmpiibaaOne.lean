/-
  'skylight/skylightlaw04.HashOne' returns true for every input, and the input reads afterwards as it read before. Conditions: none.
-/
import Derived.Test.YtgaapahhmpiibaaRows
import Derived.WalkKit
import Derived.ProofKit
import Derived.OpenShut
import Derived.ShutString
import Derived.ChangeOld
import Derived.Below
import Derived.Test.YtgaapahhmpiibaaOpen
import Derived.Test.YtgaapahhmpiibaaHAwake
namespace Go.Proofs.Ytgaapahhmpiibaa.hashOne
open Go.Proofs Go.Proofs.Wm Go.Proofs.Rf
open Go.ChangeShapes Go.WideShapes Go.ChangeAt Go.RowKit
open Go.ChangeMaps (open_string shut_string)
set_option linter.unusedVariables false

theorem own : ownKnob Try.prog.godebug = none := by kernel_rfl
theorem laidOut : laidOutB Try.prog = true := by kernel_rfl

/-- A slice of integers that came in: nil, or a row of cells of its capacity, each fitting its kind. -/
def IsRow (k : IntKind) (w : World) (a : Option Addr) (len cap : Nat) (zs : List Int) : Prop :=
  (a = none ∧ len = 0 ∧ cap = 0 ∧ zs = []) ∨
  ∃ x, a = some x ∧ len ≤ cap ∧ cap ≤ maxLen ∧ zs.length = cap ∧ (∀ i, i < zs.length → w.cell? (x.add i) = some (.int k (zs.getD i 0))) ∧ ∀ n ∈ zs, (Lit.int k n).wf = true

theorem fit0_of {c : List Value} (h : Op.Fits [.u64, .u64] c) : ∃ x0 x1 : Int, c = [.int .u64 x0, .int .u64 x1] ∧ (Lit.int .u64 x0).wf = true ∧ (Lit.int .u64 x1).wf = true := by
  match c, h with
  | [_, _], ⟨⟨x0, e0, e0w⟩, ⟨x1, e1, e1w⟩, _⟩ =>
    subst e0; subst e1
    exact ⟨x0, x1, rfl, e0w, e1w⟩

theorem fit1_of {c : List Value} (h : Op.Fits [.u64, .u64] c) : ∃ x0 x1 : Int, c = [.int .u64 x0, .int .u64 x1] ∧ (Lit.int .u64 x0).wf = true ∧ (Lit.int .u64 x1).wf = true := by
  match c, h with
  | [_, _], ⟨⟨x0, e0, e0w⟩, ⟨x1, e1, e1w⟩, _⟩ =>
    subst e0; subst e1
    exact ⟨x0, x1, rfl, e0w, e1w⟩

theorem fit2_of {c : List Value} (h : Op.Fits [.u64, .u64] c) : ∃ x0 x1 : Int, c = [.int .u64 x0, .int .u64 x1] ∧ (Lit.int .u64 x0).wf = true ∧ (Lit.int .u64 x1).wf = true := by
  match c, h with
  | [_, _], ⟨⟨x0, e0, e0w⟩, ⟨x1, e1, e1w⟩, _⟩ =>
    subst e0; subst e1
    exact ⟨x0, x1, rfl, e0w, e1w⟩

open Go.Proofs.Rf
attribute [local go_sem] seed_eql seed_neq seed_guard
theorem col_prime {a b x : Nat} (h : 1 ≤ a ∧ a < 2305843009213693951 ∧ b < 2305843009213693951) (hx : x < 2305843009213693951) : col a b x 2305843009213693951 = (addM (mulM a x) b : Nat) := by
  unfold col
  rw [if_neg (by decide), if_neg (by rw [may_iff.2 h]; decide), if_neg (by unfold keyB; rw [decide_eq_true hx]; decide)]
  rw [show (2305843009213693951 : Int).toNat = 2305843009213693951 from rfl, show addM (mulM a x) b % 2305843009213693951 = addM (mulM a x) b from Nat.mod_eq_of_lt (addM_lt _ _)]
theorem rest_nat (n : Nat) : ∃ x : Nat, (n : Int) % 2305843009213693951 = (x : Int) ∧ x < 2305843009213693951 := ⟨n % 2305843009213693951, by omega, by omega⟩
theorem box_cells3 {w wn : World} {a b c d e f : Value} {s t : TypeId} (h : Below (((w.alloc (.cells #[a, b] t)).alloc (.cells #[c, d] t)).alloc (.cells #[e, f] s)).heap.size (((w.alloc (.cells #[a, b] t)).alloc (.cells #[c, d] t)).alloc (.cells #[e, f] s)) wn) :
    (wn.cell? ⟨w.heap.size, 0, none⟩ = some a ∧ wn.cell? ⟨w.heap.size, 1, none⟩ = some b) ∧ (wn.cell? ⟨w.heap.size + 1, 0, none⟩ = some c ∧ wn.cell? ⟨w.heap.size + 1, 1, none⟩ = some d) ∧ (wn.cell? ⟨w.heap.size + 1 + 1, 0, none⟩ = some e ∧ wn.cell? ⟨w.heap.size + 1 + 1, 1, none⟩ = some f) ∧ w.heap.size + 1 + 1 < wn.heap.size := by
  have h2 : Below ((w.alloc (.cells #[a, b] t)).alloc (.cells #[c, d] t)).heap.size ((w.alloc (.cells #[a, b] t)).alloc (.cells #[c, d] t)) wn := (below_row _ _).trans (h.mono (by simp))
  have h3 : Below (w.alloc (.cells #[a, b] t)).heap.size (w.alloc (.cells #[a, b] t)) wn := (below_row _ _).trans (h2.mono (by simp))
  have p := box_cells h
  have q := box_cells h2
  have r := box_cells h3
  have z := box_lt h
  rw [World.size_alloc, World.size_alloc] at p z
  rw [World.size_alloc] at q
  exact ⟨r, q, p, z⟩
theorem ones_eq {a b c d x y : Nat} (hs : 1 ≤ a ∧ a < 2305843009213693951 ∧ b < 2305843009213693951) (ht : 1 ≤ c ∧ c < 2305843009213693951 ∧ d < 2305843009213693951) (hx : x < 2305843009213693951) (hy : y < 2305843009213693951) (hxy : x ≠ y) :
    ((col a b x 2305843009213693951 == col c d x 2305843009213693951) && (col a b y 2305843009213693951 == col c d y 2305843009213693951)) = (((a : Int) == (c : Int)) && ((b : Int) == (d : Int))) := by
  rw [col_prime hs hx, col_prime hs hy, col_prime ht hx, col_prime ht hy, Bool.eq_iff_iff]
  simp only [Bool.and_eq_true, beq_iff_eq]
  constructor
  · rintro ⟨h1, h2⟩
    have h := seeds_one (a := a) (b := b) (c := c) (d := d) hs.2.1 hs.2.2 ht.2.1 ht.2.2 hx hy hxy (Int.ofNat_inj.1 h1) (Int.ofNat_inj.1 h2)
    exact ⟨congrArg _ h.1, congrArg _ h.2⟩
  · rintro ⟨h1, h2⟩
    rw [Int.ofNat_inj.1 h1, Int.ofNat_inj.1 h2]
    exact ⟨rfl, rfl⟩

set_option maxRecDepth 100000 in
set_option maxHeartbeats 4000000 in
theorem walk (a0_0 a0_1 : Int) (a1_0 a1_1 : Int) (a2_0 a2_1 : Int) (w : World) (w0_0 : (Lit.int .u64 a0_0).wf = true) (w0_1 : (Lit.int .u64 a0_1).wf = true) (w1_0 : (Lit.int .u64 a1_0).wf = true) (w1_1 : (Lit.int .u64 a1_1).wf = true) (w2_0 : (Lit.int .u64 a2_0).wf = true) (w2_1 : (Lit.int .u64 a2_1).wf = true) :
    Calls Try.prog 7 #[.agg #[.int .u64 a0_0, .int .u64 a0_1], .agg #[.int .u64 a1_0, .int .u64 a1_1], .agg #[.int .u64 a2_0, .int .u64 a2_1]] w fun e w' => e = .returned (.bool true) ∧ Below w.heap.size w w' := by
  obtain ⟨ba0_0_0, ba0_0_1⟩ := bounds_u64 w0_0
  obtain ⟨a, rfl⟩ : ∃ m : Nat, a0_0 = m := ⟨a0_0.toNat, by omega⟩
  obtain ⟨ba0_1_0, ba0_1_1⟩ := bounds_u64 w0_1
  obtain ⟨b, rfl⟩ : ∃ m : Nat, a0_1 = m := ⟨a0_1.toNat, by omega⟩
  obtain ⟨ba1_0_0, ba1_0_1⟩ := bounds_u64 w1_0
  obtain ⟨c, rfl⟩ : ∃ m : Nat, a1_0 = m := ⟨a1_0.toNat, by omega⟩
  obtain ⟨ba1_1_0, ba1_1_1⟩ := bounds_u64 w1_1
  obtain ⟨d, rfl⟩ : ∃ m : Nat, a1_1 = m := ⟨a1_1.toNat, by omega⟩
  obtain ⟨ba2_0_0, ba2_0_1⟩ := bounds_u64 w2_0
  obtain ⟨kx, rfl⟩ : ∃ m : Nat, a2_0 = m := ⟨a2_0.toNat, by omega⟩
  obtain ⟨ba2_1_0, ba2_1_1⟩ := bounds_u64 w2_1
  obtain ⟨ky, rfl⟩ : ∃ m : Nat, a2_1 = m := ⟨a2_1.toNat, by omega⟩
  have ha : a < 18446744073709551616 := by omega
  have hb : b < 18446744073709551616 := by omega
  have hc : c < 18446744073709551616 := by omega
  have hd : d < 18446744073709551616 := by omega
  have hkx : kx < 18446744073709551616 := by omega
  have hky : ky < 18446744073709551616 := by omega
  clear w0_0 ba0_0_0 ba0_0_1 w0_1 ba0_1_0 ba0_1_1 w1_0 ba1_0_0 ba1_0_1 w1_1 ba1_1_0 ba1_1_1 w2_0 ba2_0_0 ba2_0_1 w2_1 ba2_1_0 ba2_1_1
  obtain ⟨x, ex, lx⟩ := rest_nat kx
  obtain ⟨y, ey, ly⟩ := rest_nat ky
  have ms := rMay_any a b ha hb
  have mt := rMay_any c d hc hd
  obtain ⟨p, hp⟩ : ∃ p, may a b = p := ⟨_, rfl⟩
  obtain ⟨q, hq⟩ : ∃ q, may c d = q := ⟨_, rfl⟩
  rw [hp] at ms
  rw [hq] at mt
  have MS := Lib.hid ms
  have MT := Lib.hid mt
  clear ms mt
  have hB : Below w.heap.size w (((w.alloc (.cells #[.int .u64 a, .int .u64 b] 24)).alloc (.cells #[.int .u64 c, .int .u64 d] 24)).alloc (.cells #[.int .u64 kx, .int .u64 ky] 36)) := ((below_row w _).alloc (by simp) _).alloc (by simp; omega) _
  by_cases hxy : x = y
  · subst hxy
    go_enter Try.func7, Try.ntmps7
    go_wp2_with (go_at_call 8; refine (awake_any _).mono ?_; rintro e wn ⟨rfl, hn⟩; obtain ⟨⟨s0, s1⟩, ⟨t0, t1⟩, ⟨k0, k1⟩, hz⟩ := box_cells3 hn; have L0 := Lib.hid (show w.heap.size < wn.heap.size by omega); have L1 := Lib.hid (show w.heap.size + 1 < wn.heap.size by omega); clear hz; replace hB := hB.trans (hn.mono hB.size); clear hn)
    go_ret
    exact ⟨rfl, hB⟩
  have n1 : ((x : Int) == (y : Int)) = false := by rw [beq_eq_false_iff_ne]; omega
  cases p
  · go_enter Try.func7, Try.ntmps7
    go_wp2_with (first
      | (go_at_call 8; refine (awake_any _).mono ?_; rintro e wn ⟨rfl, hn⟩; obtain ⟨⟨s0, s1⟩, ⟨t0, t1⟩, ⟨k0, k1⟩, hz⟩ := box_cells3 hn; have L0 := Lib.hid (show w.heap.size < wn.heap.size by omega); have L1 := Lib.hid (show w.heap.size + 1 < wn.heap.size by omega); clear hz; replace hB := hB.trans (hn.mono hB.size); clear hn)
      | (go_at_call 12; (with_reducible refine (MS.out _).mono ?_); rintro e wn ⟨rfl, hn⟩; replace s0 := (hn.cell (p := ⟨w.heap.size, 0, none⟩) L0.out).trans s0; replace s1 := (hn.cell (p := ⟨w.heap.size, 1, none⟩) L0.out).trans s1; replace t0 := (hn.cell (p := ⟨w.heap.size + 1, 0, none⟩) L1.out).trans t0; replace t1 := (hn.cell (p := ⟨w.heap.size + 1, 1, none⟩) L1.out).trans t1; replace hB := hB.trans (hn.mono hB.size); replace L0 := Lib.hid (Nat.lt_of_lt_of_le L0.out hn.size); replace L1 := Lib.hid (Nat.lt_of_lt_of_le L1.out hn.size); clear hn)
      | (go_at_call 12; (with_reducible refine (MT.out _).mono ?_); rintro e wn ⟨rfl, hn⟩; replace s0 := (hn.cell (p := ⟨w.heap.size, 0, none⟩) L0.out).trans s0; replace s1 := (hn.cell (p := ⟨w.heap.size, 1, none⟩) L0.out).trans s1; replace t0 := (hn.cell (p := ⟨w.heap.size + 1, 0, none⟩) L1.out).trans t0; replace t1 := (hn.cell (p := ⟨w.heap.size + 1, 1, none⟩) L1.out).trans t1; replace hB := hB.trans (hn.mono hB.size); replace L0 := Lib.hid (Nat.lt_of_lt_of_le L0.out hn.size); replace L1 := Lib.hid (Nat.lt_of_lt_of_le L1.out hn.size); clear hn))
    go_ret
    exact ⟨rfl, hB⟩
  · cases q
    · go_enter Try.func7, Try.ntmps7
      go_wp2_with (first
      | (go_at_call 8; refine (awake_any _).mono ?_; rintro e wn ⟨rfl, hn⟩; obtain ⟨⟨s0, s1⟩, ⟨t0, t1⟩, ⟨k0, k1⟩, hz⟩ := box_cells3 hn; have L0 := Lib.hid (show w.heap.size < wn.heap.size by omega); have L1 := Lib.hid (show w.heap.size + 1 < wn.heap.size by omega); clear hz; replace hB := hB.trans (hn.mono hB.size); clear hn)
      | (go_at_call 12; (with_reducible refine (MS.out _).mono ?_); rintro e wn ⟨rfl, hn⟩; replace s0 := (hn.cell (p := ⟨w.heap.size, 0, none⟩) L0.out).trans s0; replace s1 := (hn.cell (p := ⟨w.heap.size, 1, none⟩) L0.out).trans s1; replace t0 := (hn.cell (p := ⟨w.heap.size + 1, 0, none⟩) L1.out).trans t0; replace t1 := (hn.cell (p := ⟨w.heap.size + 1, 1, none⟩) L1.out).trans t1; replace hB := hB.trans (hn.mono hB.size); replace L0 := Lib.hid (Nat.lt_of_lt_of_le L0.out hn.size); replace L1 := Lib.hid (Nat.lt_of_lt_of_le L1.out hn.size); clear hn)
      | (go_at_call 12; (with_reducible refine (MT.out _).mono ?_); rintro e wn ⟨rfl, hn⟩; replace s0 := (hn.cell (p := ⟨w.heap.size, 0, none⟩) L0.out).trans s0; replace s1 := (hn.cell (p := ⟨w.heap.size, 1, none⟩) L0.out).trans s1; replace t0 := (hn.cell (p := ⟨w.heap.size + 1, 0, none⟩) L1.out).trans t0; replace t1 := (hn.cell (p := ⟨w.heap.size + 1, 1, none⟩) L1.out).trans t1; replace hB := hB.trans (hn.mono hB.size); replace L0 := Lib.hid (Nat.lt_of_lt_of_le L0.out hn.size); replace L1 := Lib.hid (Nat.lt_of_lt_of_le L1.out hn.size); clear hn))
      go_ret
      exact ⟨rfl, hB⟩
    · have m1 := column_any a b x ha hb (by omega) 2305843009213693951 (by decide) (by decide)
      have m2 := column_any a b y ha hb (by omega) 2305843009213693951 (by decide) (by decide)
      have m3 := column_any c d x hc hd (by omega) 2305843009213693951 (by decide) (by decide)
      have m4 := column_any c d y hc hd (by omega) 2305843009213693951 (by decide) (by decide)
      have he := ones_eq (may_iff.1 hp) (may_iff.1 hq) lx ly hxy
      generalize col a b x 2305843009213693951 = cx at *
      generalize col a b y 2305843009213693951 = cy at *
      generalize col c d x 2305843009213693951 = dx at *
      generalize col c d y 2305843009213693951 = dy at *
      obtain ⟨e1, h1⟩ : ∃ e, (cx == dx) = e := ⟨_, rfl⟩
      obtain ⟨e2, h2⟩ : ∃ e, (cy == dy) = e := ⟨_, rfl⟩
      rw [h1, h2] at he
      have M1 := Lib.hid m1
      have M2 := Lib.hid m2
      have M3 := Lib.hid m3
      have M4 := Lib.hid m4
      have HE := Lib.hid he
      have E1 := Lib.hid h1
      have E2 := Lib.hid h2
      clear m1 m2 m3 m4 he h1 h2 hp hq hxy
      go_enter Try.func7, Try.ntmps7
      go_upto_region 6 with (first
      | (go_at_call 8; refine (awake_any _).mono ?_; rintro e wn ⟨rfl, hn⟩; obtain ⟨⟨s0, s1⟩, ⟨t0, t1⟩, ⟨k0, k1⟩, hz⟩ := box_cells3 hn; have L0 := Lib.hid (show w.heap.size < wn.heap.size by omega); have L1 := Lib.hid (show w.heap.size + 1 < wn.heap.size by omega); clear hz; replace hB := hB.trans (hn.mono hB.size); clear hn)
      | (go_at_call 12; (with_reducible refine (MS.out _).mono ?_); rintro e wn ⟨rfl, hn⟩; replace s0 := (hn.cell (p := ⟨w.heap.size, 0, none⟩) L0.out).trans s0; replace s1 := (hn.cell (p := ⟨w.heap.size, 1, none⟩) L0.out).trans s1; replace t0 := (hn.cell (p := ⟨w.heap.size + 1, 0, none⟩) L1.out).trans t0; replace t1 := (hn.cell (p := ⟨w.heap.size + 1, 1, none⟩) L1.out).trans t1; replace hB := hB.trans (hn.mono hB.size); replace L0 := Lib.hid (Nat.lt_of_lt_of_le L0.out hn.size); replace L1 := Lib.hid (Nat.lt_of_lt_of_le L1.out hn.size); clear hn)
      | (go_at_call 12; (with_reducible refine (MT.out _).mono ?_); rintro e wn ⟨rfl, hn⟩; replace s0 := (hn.cell (p := ⟨w.heap.size, 0, none⟩) L0.out).trans s0; replace s1 := (hn.cell (p := ⟨w.heap.size, 1, none⟩) L0.out).trans s1; replace t0 := (hn.cell (p := ⟨w.heap.size + 1, 0, none⟩) L1.out).trans t0; replace t1 := (hn.cell (p := ⟨w.heap.size + 1, 1, none⟩) L1.out).trans t1; replace hB := hB.trans (hn.mono hB.size); replace L0 := Lib.hid (Nat.lt_of_lt_of_le L0.out hn.size); replace L1 := Lib.hid (Nat.lt_of_lt_of_le L1.out hn.size); clear hn))
      refine region_all (fr := ?frA) (fun i us W => match i with
          | 0 => us 0 = .agg #[.int .u64 a, .int .u64 b]
          | 1 => us 1 = .int .u64 x
          | 2 => us 2 = .int .i64 cx
          | 3 => us 3 = .agg #[.int .u64 c, .int .u64 d]
          | 4 => us 4 = .int .u64 x
          | 5 => us 5 = .int .i64 dx
          | 6 => us 6 = .bool e1
          | 7 => us 7 = .bool e1
          | _ => True) (fun _ W W' => Grows W W') (fun W => Below wn.heap.size wn W) rfl ?hBA ?hfrA ?hlocA ?hstA ?hG0A ?hGA ?hopA ?hendA
      case hBA => kernel_rfl
      case hfrA =>
        intro us
        simp only [List.length_cons, List.length_nil, Nat.zero_add, Nat.reduceAdd, putO, dstO]
        go_simp
        rfl
      case hlocA =>
        intro i us us' W h hf
        match i with
        | 0 =>
          have e0 := h 0 (.inl rfl)
          try dsimp only at hf ⊢
          rw [e0] at hf
          exact hf
        | 1 =>
          have e1 := h 1 (.inl rfl)
          try dsimp only at hf ⊢
          rw [e1] at hf
          exact hf
        | 2 =>
          have e2 := h 2 (.inl rfl)
          try dsimp only at hf ⊢
          rw [e2] at hf
          exact hf
        | 3 =>
          have e3 := h 3 (.inl rfl)
          try dsimp only at hf ⊢
          rw [e3] at hf
          exact hf
        | 4 =>
          have e4 := h 4 (.inl rfl)
          try dsimp only at hf ⊢
          rw [e4] at hf
          exact hf
        | 5 =>
          have e5 := h 5 (.inl rfl)
          try dsimp only at hf ⊢
          rw [e5] at hf
          exact hf
        | 6 =>
          have e6 := h 6 (.inl rfl)
          try dsimp only at hf ⊢
          rw [e6] at hf
          exact hf
        | 7 =>
          have e7 := h 7 (.inl rfl)
          try dsimp only at hf ⊢
          rw [e7] at hf
          exact hf
        | n + 8 => trivial
      case hstA =>
        intro i j us W W' hne hw hi hj hE hf
        match i with
        | 0 => exact hf
        | 1 => exact hf
        | 2 => exact hf
        | 3 => exact hf
        | 4 => exact hf
        | 5 => exact hf
        | 6 => exact hf
        | 7 => exact hf
        | n + 8 => trivial
      case hG0A =>
        exact (Below.refl _ wn).drew
      case hGA =>
        intro j W W' hE hg
        exact hg.trans (hE.mono hg.size)
      case hopA =>
        intro i hi us W hg hd hq
        match i, hi with
        | 0, _ =>
          clear hd hq
          have c0 := (hg.cell (p := ⟨w.heap.size, 0, none⟩) L0.out).trans s0
          have c1 := (hg.cell (p := ⟨w.heap.size, 1, none⟩) L0.out).trans s1
          refine all_value rfl rfl (.agg #[.int .u64 a, .int .u64 b]) W (by go_simp) ?_ ?_
          · exact Grows.refl _
          · rfl
        | 1, _ =>
          clear hd hq
          refine all_value rfl rfl (.int .u64 x) W (by go_simp) ?_ ?_
          · exact Grows.refl _
          · rfl
        | 2, _ =>
          have h0 : us 0 = .agg #[.int .u64 a, .int .u64 b] := hd 0 (by kernel_rfl)
          have h1 : us 1 = .int .u64 x := hd 1 (by kernel_rfl)
          clear hd hq
          refine all_call rfl rfl 9 #[.agg #[.int .u64 a, .int .u64 b], .int .u64 x, .int .i64 2305843009213693951] (by go_simp) ?_
          exact (M1.out _).mono fun _ W' ⟨he, hb⟩ => ⟨_, he, hb, rfl⟩
        | 3, _ =>
          clear hd hq
          have c0 := (hg.cell (p := ⟨w.heap.size + 1, 0, none⟩) L1.out).trans t0
          have c1 := (hg.cell (p := ⟨w.heap.size + 1, 1, none⟩) L1.out).trans t1
          refine all_value rfl rfl (.agg #[.int .u64 c, .int .u64 d]) W (by go_simp) ?_ ?_
          · exact Grows.refl _
          · rfl
        | 4, _ =>
          clear hd hq
          refine all_value rfl rfl (.int .u64 x) W (by go_simp) ?_ ?_
          · exact Grows.refl _
          · rfl
        | 5, _ =>
          have h3 : us 3 = .agg #[.int .u64 c, .int .u64 d] := hd 3 (by kernel_rfl)
          have h4 : us 4 = .int .u64 x := hd 4 (by kernel_rfl)
          clear hd hq
          refine all_call rfl rfl 9 #[.agg #[.int .u64 c, .int .u64 d], .int .u64 x, .int .i64 2305843009213693951] (by go_simp) ?_
          exact (M3.out _).mono fun _ W' ⟨he, hb⟩ => ⟨_, he, hb, rfl⟩
        | 6, _ =>
          have h2 : us 2 = .int .i64 cx := hd 2 (by kernel_rfl)
          have h5 : us 5 = .int .i64 dx := hd 5 (by kernel_rfl)
          clear hd hq
          have hv := E1.out
          refine all_value rfl rfl (.bool e1) W (by go_simp) ?_ ?_
          · exact Grows.refl _
          · rfl
        | 7, _ =>
          have h6 : us 6 = .bool e1 := hd 6 (by kernel_rfl)
          clear hd hq
          refine all_value rfl rfl (.bool e1) W (by go_simp) ?_ ?_
          · exact Grows.refl _
          · rfl
        | n + 8, h => exact absurd h (by simp)
      case hendA =>
        intro us W hg hf
        have h7 : us 7 = .bool e1 := hf 7 (by simp)
        clear hf
        rw [h7]
        replace s0 := (hg.cell (p := ⟨w.heap.size, 0, none⟩) L0.out).trans s0
        replace s1 := (hg.cell (p := ⟨w.heap.size, 1, none⟩) L0.out).trans s1
        replace t0 := (hg.cell (p := ⟨w.heap.size + 1, 0, none⟩) L1.out).trans t0
        replace t1 := (hg.cell (p := ⟨w.heap.size + 1, 1, none⟩) L1.out).trans t1
        replace hB := hB.trans (hg.mono hB.size)
        replace L0 := Lib.hid (Nat.lt_of_lt_of_le L0.out hg.size)
        replace L1 := Lib.hid (Nat.lt_of_lt_of_le L1.out hg.size)
        clear hg h7
        generalize W = wk at *
        go_upto_region 7 with (fail)
        refine region_all (fr := ?frB) (fun i us W => match i with
            | 0 => us 0 = .agg #[.int .u64 a, .int .u64 b]
            | 1 => us 1 = .int .u64 y
            | 2 => us 2 = .int .i64 cy
            | 3 => us 3 = .agg #[.int .u64 c, .int .u64 d]
            | 4 => us 4 = .int .u64 y
            | 5 => us 5 = .int .i64 dy
            | 6 => us 6 = .bool e2
            | 7 => us 7 = .bool e2
            | _ => True) (fun _ W W' => Grows W W') (fun W => Below wk.heap.size wk W) rfl ?hBB ?hfrB ?hlocB ?hstB ?hG0B ?hGB ?hopB ?hendB
        case hBB => kernel_rfl
        case hfrB =>
          intro us
          simp only [List.length_cons, List.length_nil, Nat.zero_add, Nat.reduceAdd, putO, dstO]
          go_simp
          rfl
        case hlocB =>
          intro i us us' W h hf
          match i with
          | 0 =>
            have e0 := h 0 (.inl rfl)
            try dsimp only at hf ⊢
            rw [e0] at hf
            exact hf
          | 1 =>
            have e1 := h 1 (.inl rfl)
            try dsimp only at hf ⊢
            rw [e1] at hf
            exact hf
          | 2 =>
            have e2 := h 2 (.inl rfl)
            try dsimp only at hf ⊢
            rw [e2] at hf
            exact hf
          | 3 =>
            have e3 := h 3 (.inl rfl)
            try dsimp only at hf ⊢
            rw [e3] at hf
            exact hf
          | 4 =>
            have e4 := h 4 (.inl rfl)
            try dsimp only at hf ⊢
            rw [e4] at hf
            exact hf
          | 5 =>
            have e5 := h 5 (.inl rfl)
            try dsimp only at hf ⊢
            rw [e5] at hf
            exact hf
          | 6 =>
            have e6 := h 6 (.inl rfl)
            try dsimp only at hf ⊢
            rw [e6] at hf
            exact hf
          | 7 =>
            have e7 := h 7 (.inl rfl)
            try dsimp only at hf ⊢
            rw [e7] at hf
            exact hf
          | n + 8 => trivial
        case hstB =>
          intro i j us W W' hne hw hi hj hE hf
          match i with
          | 0 => exact hf
          | 1 => exact hf
          | 2 => exact hf
          | 3 => exact hf
          | 4 => exact hf
          | 5 => exact hf
          | 6 => exact hf
          | 7 => exact hf
          | n + 8 => trivial
        case hG0B =>
          exact (Below.refl _ wk).drew
        case hGB =>
          intro j W W' hE hg
          exact hg.trans (hE.mono hg.size)
        case hopB =>
          intro i hi us W hg hd hq
          match i, hi with
          | 0, _ =>
            clear hd hq
            have c0 := (hg.cell (p := ⟨w.heap.size, 0, none⟩) L0.out).trans s0
            have c1 := (hg.cell (p := ⟨w.heap.size, 1, none⟩) L0.out).trans s1
            refine all_value rfl rfl (.agg #[.int .u64 a, .int .u64 b]) W (by go_simp) ?_ ?_
            · exact Grows.refl _
            · rfl
          | 1, _ =>
            clear hd hq
            refine all_value rfl rfl (.int .u64 y) W (by go_simp) ?_ ?_
            · exact Grows.refl _
            · rfl
          | 2, _ =>
            have h0 : us 0 = .agg #[.int .u64 a, .int .u64 b] := hd 0 (by kernel_rfl)
            have h1 : us 1 = .int .u64 y := hd 1 (by kernel_rfl)
            clear hd hq
            refine all_call rfl rfl 9 #[.agg #[.int .u64 a, .int .u64 b], .int .u64 y, .int .i64 2305843009213693951] (by go_simp) ?_
            exact (M2.out _).mono fun _ W' ⟨he, hb⟩ => ⟨_, he, hb, rfl⟩
          | 3, _ =>
            clear hd hq
            have c0 := (hg.cell (p := ⟨w.heap.size + 1, 0, none⟩) L1.out).trans t0
            have c1 := (hg.cell (p := ⟨w.heap.size + 1, 1, none⟩) L1.out).trans t1
            refine all_value rfl rfl (.agg #[.int .u64 c, .int .u64 d]) W (by go_simp) ?_ ?_
            · exact Grows.refl _
            · rfl
          | 4, _ =>
            clear hd hq
            refine all_value rfl rfl (.int .u64 y) W (by go_simp) ?_ ?_
            · exact Grows.refl _
            · rfl
          | 5, _ =>
            have h3 : us 3 = .agg #[.int .u64 c, .int .u64 d] := hd 3 (by kernel_rfl)
            have h4 : us 4 = .int .u64 y := hd 4 (by kernel_rfl)
            clear hd hq
            refine all_call rfl rfl 9 #[.agg #[.int .u64 c, .int .u64 d], .int .u64 y, .int .i64 2305843009213693951] (by go_simp) ?_
            exact (M4.out _).mono fun _ W' ⟨he, hb⟩ => ⟨_, he, hb, rfl⟩
          | 6, _ =>
            have h2 : us 2 = .int .i64 cy := hd 2 (by kernel_rfl)
            have h5 : us 5 = .int .i64 dy := hd 5 (by kernel_rfl)
            clear hd hq
            have hv := E2.out
            refine all_value rfl rfl (.bool e2) W (by go_simp) ?_ ?_
            · exact Grows.refl _
            · rfl
          | 7, _ =>
            have h6 : us 6 = .bool e2 := hd 6 (by kernel_rfl)
            clear hd hq
            refine all_value rfl rfl (.bool e2) W (by go_simp) ?_ ?_
            · exact Grows.refl _
            · rfl
          | n + 8, h => exact absurd h (by simp)
        case hendB =>
          intro us W hg hf
          have h7 : us 7 = .bool e2 := hf 7 (by simp)
          clear hf
          rw [h7]
          have q0 := (hg.cell (p := ⟨w.heap.size, 0, none⟩) L0.out).trans s0
          have q1 := (hg.cell (p := ⟨w.heap.size, 1, none⟩) L0.out).trans s1
          have r0 := (hg.cell (p := ⟨w.heap.size + 1, 0, none⟩) L1.out).trans t0
          have r1 := (hg.cell (p := ⟨w.heap.size + 1, 1, none⟩) L1.out).trans t1
          have HG := Lib.hid (hB.trans (hg.mono hB.size))
          clear hg h7 hB s0 s1 t0 t1
          have hv := HE.out
          obtain ⟨f1, hf1⟩ : ∃ f, ((a : Int) == (c : Int)) = f := ⟨_, rfl⟩
          obtain ⟨f2, hf2⟩ : ∃ f, ((b : Int) == (d : Int)) = f := ⟨_, rfl⟩
          rw [hf1, hf2] at hv
          have HV := Lib.hid hv
          clear hv HE
          cases e1 <;> cases e2 <;> cases f1 <;> cases f2
          all_goals first
            | exact absurd HV.out (by decide)
            | (go_wp2
               go_ret
               exact ⟨rfl, HG.out⟩)

set_option maxRecDepth 100000 in
theorem lifted (os : Os) (started : os.Started) (H : Type) (enc : TypeId × Value → H) :
    ReturnsInHanded {} Try.checked os 7 .any (Rows.hashOneSpec.pre6 enc Try.prog Try.f7 Rows.hashOneRow.domain false) (Rows.hashOneSpec.post enc Try.prog Try.f7 false true false false) := by
  refine returnsInHanded_of_change (C := Try.checked) own started (by kernel_rfl) Try.func7
    (ChangeSpec.witness6 (enc := enc) (C := Try.checked) false ⟨#[], #[.agg #[.int .u64 0, .int .u64 0], .agg #[.int .u64 0, .int .u64 0], .agg #[.int .u64 0, .int .u64 0]], []⟩ 8 (by kernel_rfl) (by kernel_rfl) (by kernel_rfl) (by kernel_rfl)) ?_
  intro W base args ds gs before hval0 hW hcnd _
  have hval : ∀ (j : Nat) t v, Try.f7.params[j]? = some t → args[j]? = some v → Value.okWide Try.prog W .any base t v := hval0
  have hW' := hW
  obtain ⟨p, q, hA0, hV, rfl, hfz, hnd⟩ := hW
  have hA : DataW.TrodAll enc Try.prog W 0 (fun _ => true) true Try.f7.params.toList args.toList ds p := hA0
  rw [Try.params7] at hA hval
  obtain ⟨v0, vs0, d0, ds0, p0, q0, hargs, rfl, rfl, h0, r0⟩ := trodAll_cons hA
  obtain ⟨v1, vs1, d1, ds1, p1, q1, rfl, rfl, rfl, h1, r1⟩ := trodAll_cons r0
  obtain ⟨v2, vs2, d2, ds2, p2, q2, rfl, rfl, rfl, h2, r2⟩ := trodAll_cons r1
  obtain ⟨rfl, rfl, rfl⟩ := trodAll_nil r2
  obtain rfl : args = #[v0, v1, v2] := by cases args; simp_all
  obtain ⟨rfl, rfl⟩ := trodVars_none hV
  have k0 := h0
  have lt0 : ∀ x ∈ p0, x.block < W.heap.size := by obtain ⟨m, hm⟩ := k0; exact DataW.trod_lt m _ _ _ hm
  obtain ⟨c0, rfl, fit0⟩ := Op.open_flat (f := 9) (ks := [.u64, .u64]) (by kernel_rfl) (by kernel_rfl) (hval 0 24 v0 rfl rfl) h0
  obtain ⟨a0_0, a0_1, rfl, w0_0, w0_1⟩ := fit0_of fit0
  have k1 := h1
  have lt1 : ∀ x ∈ p1, x.block < W.heap.size := by obtain ⟨m, hm⟩ := k1; exact DataW.trod_lt m _ _ _ hm
  obtain ⟨c1, rfl, fit1⟩ := Op.open_flat (f := 9) (ks := [.u64, .u64]) (by kernel_rfl) (by kernel_rfl) (hval 1 24 v1 rfl rfl) h1
  obtain ⟨a1_0, a1_1, rfl, w1_0, w1_1⟩ := fit1_of fit1
  have k2 := h2
  have lt2 : ∀ x ∈ p2, x.block < W.heap.size := by obtain ⟨m, hm⟩ := k2; exact DataW.trod_lt m _ _ _ hm
  obtain ⟨c2, rfl, fit2⟩ := Op.open_flat (f := 9) (ks := [.u64, .u64]) (by kernel_rfl) (by kernel_rfl) (hval 2 36 v2 rfl rfl) h2
  obtain ⟨a2_0, a2_1, rfl, w2_0, w2_1⟩ := fit2_of fit2
  clear hA0 hval0
  refine (walk a0_0 a0_1 a1_0 a1_1 a2_0 a2_1 W w0_0 w0_1 w1_0 w1_1 w2_0 w2_1).mono fun e W' ⟨he, bel⟩ => ?_
  subst he
  exact ⟨_, rfl, _, _, _, [], _, [], hW', trodAll_mk1 (shut_bool Try.underlying4 _), (trodAll_cons_mk (Below.trod laidOut (by kernel_rfl) (of_decide_eq_true (by kernel_rfl)) k0 bel lt0) (trodAll_cons_mk (Below.trod laidOut (by kernel_rfl) (of_decide_eq_true (by kernel_rfl)) k1 bel lt1) (trodAll_cons_mk (Below.trod laidOut (by kernel_rfl) (of_decide_eq_true (by kernel_rfl)) k2 bel lt2) trodAll_mk0))), rfl, bel.frame _, fun h => by cases h⟩

theorem over : Rows.hashOneRow.holds Try.pinned (OpenSpec.ofChange Rows.hashOneSpec) :=
  OpenClaim.holds_of_wide 7 Try.f7 rfl rfl rfl rfl rfl rfl rfl ⟨rfl, rfl, rfl, rfl, rfl⟩ rfl rfl rfl rfl rfl (by kernel_rfl) Try.func7 (by kernel_rfl)
    (of_decide_eq_true (by kernel_rfl)) (by unfold Func.isWrapper; first | (rw [if_pos (by decide +kernel)]; kernel_rfl) | (rw [if_neg (by decide +kernel)]; exact ⟨rfl, rfl⟩))
    (fun os started H enc _ => lifted os started H enc)

/-- The statement. -/
theorem proved : Rows.HashOneSaid := over
#print axioms proved
end Go.Proofs.Ytgaapahhmpiibaa.hashOne
