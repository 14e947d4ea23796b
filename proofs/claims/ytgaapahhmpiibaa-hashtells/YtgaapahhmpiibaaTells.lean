/-
  'skylight/skylightlaw04.HashTells' returns true for every input, and the input reads afterwards as it read before. Conditions: none.
-/
import Derived.Test.YtgaapahhmpiibaaRows
import Derived.WalkKit
import Derived.ProofKit
import Derived.OpenShut
import Derived.ShutString
import Derived.ChangeOld
import Derived.Below
import Derived.Test.YtgaapahhmpiibaaOpen
import Derived.Test.YtgaapahhmpiibaaHAwake
namespace Go.Proofs.Ytgaapahhmpiibaa.hashTells
open Go.Proofs Go.Proofs.Wm Go.Proofs.Rf
open Go.ChangeShapes Go.WideShapes Go.ChangeAt Go.RowKit
open Go.ChangeMaps (open_string shut_string)
set_option linter.unusedVariables false

theorem own : ownKnob Try.prog.godebug = none := by kernel_rfl
theorem laidOut : laidOutB Try.prog = true := by kernel_rfl

/-- A slice of integers that came in: nil, or a row of cells of its capacity, each fitting its kind. -/
def IsRow (k : IntKind) (w : World) (a : Option Addr) (len cap : Nat) (zs : List Int) : Prop :=
  (a = none ∧ len = 0 ∧ cap = 0 ∧ zs = []) ∨
  ∃ x, a = some x ∧ len ≤ cap ∧ cap ≤ maxLen ∧ zs.length = cap ∧ (∀ i, i < zs.length → w.cell? (x.add i) = some (.int k (zs.getD i 0))) ∧ ∀ n ∈ zs, (Lit.int k n).wf = true

theorem fit0_of {c : List Value} (h : Op.Fits [.u64, .u64] c) : ∃ x0 x1 : Int, c = [.int .u64 x0, .int .u64 x1] ∧ (Lit.int .u64 x0).wf = true ∧ (Lit.int .u64 x1).wf = true := by
  match c, h with
  | [_, _], ⟨⟨x0, e0, e0w⟩, ⟨x1, e1, e1w⟩, _⟩ =>
    subst e0; subst e1
    exact ⟨x0, x1, rfl, e0w, e1w⟩

open Go.Proofs.Rf

set_option maxRecDepth 100000 in
set_option maxHeartbeats 4000000 in
theorem walk (a0_0 a0_1 : Int) (a1 : Int) (a2 : Int) (w : World) (w0_0 : (Lit.int .u64 a0_0).wf = true) (w0_1 : (Lit.int .u64 a0_1).wf = true) (w1 : (Lit.int .u64 a1).wf = true) (w2 : (Lit.int .i64 a2).wf = true) :
    Calls Try.prog 3 #[.agg #[.int .u64 a0_0, .int .u64 a0_1], .int .u64 a1, .int .i64 a2] w fun e w' => e = .returned (.bool true) ∧ Below w.heap.size w w' := by
  obtain ⟨ba0_0_0, ba0_0_1⟩ := bounds_u64 w0_0
  obtain ⟨a, rfl⟩ : ∃ m : Nat, a0_0 = m := ⟨a0_0.toNat, by omega⟩
  obtain ⟨ba0_1_0, ba0_1_1⟩ := bounds_u64 w0_1
  obtain ⟨b, rfl⟩ : ∃ m : Nat, a0_1 = m := ⟨a0_1.toNat, by omega⟩
  obtain ⟨ba1_0, ba1_1⟩ := bounds_u64 w1
  obtain ⟨x, rfl⟩ : ∃ m : Nat, a1 = m := ⟨a1.toNat, by omega⟩
  have ha : a < 18446744073709551616 := by omega
  have hb : b < 18446744073709551616 := by omega
  have hx : x < 18446744073709551616 := by omega
  clear w0_0 ba0_0_0 ba0_0_1 w0_1 ba0_1_0 ba0_1_1 w1 ba1_0 ba1_1
  obtain ⟨k0, k1⟩ := bounds_i64 w2
  clear w2
  have m1 := column_any a b x ha hb hx a2 k0 k1
  have m2 := rColumn_any a b x ha hb hx a2 k0 k1
  have m3 := may_any a b ha hb
  have m4 := rMay_any a b ha hb
  have m5 := key_any x
  have m6 := rKey_any x
  generalize col a b x a2 = c at *
  generalize may a b = m at *
  generalize keyB x = y at *
  have M1 := Lib.hid m1
  have M2 := Lib.hid m2
  have M3 := Lib.hid m3
  have M4 := Lib.hid m4
  have M5 := Lib.hid m5
  have M6 := Lib.hid m6
  clear m1 m2 m3 m4 m5 m6 ha hb hx
  have hB := below_row w (.cells #[.int .u64 a, .int .u64 b] 24)
  go_enter Try.func3, Try.ntmps3
  go_upto_region 2 with (go_at_call 8; refine (awake_any _).mono ?_; rintro e wn ⟨rfl, hn⟩; obtain ⟨s0, s1⟩ := box_cells hn; have HLT := Lib.hid (box_lt hn); replace hB := hB.trans (hn.mono hB.size); clear hn)
  refine region_all (fr := ?frA) (fun i us W => match i with
      | 0 => us 0 = .bool true
      | 1 => us 1 = .bool true
      | 2 => us 2 = .agg #[.int .u64 a, .int .u64 b]
      | 3 => us 3 = .int .u64 x
      | 4 => us 4 = .int .i64 a2
      | 5 => us 5 = .int .i64 c
      | 6 => us 6 = .agg #[.int .u64 a, .int .u64 b]
      | 7 => us 7 = .int .u64 x
      | 8 => us 8 = .int .i64 a2
      | 9 => us 9 = .int .i64 c
      | 10 => us 10 = .bool true
      | 11 => us 11 = .bool true
      | 12 => us 12 = .bool true
      | 13 => us 13 = .agg #[.int .u64 a, .int .u64 b]
      | 14 => us 14 = .bool m
      | 15 => us 15 = .agg #[.int .u64 a, .int .u64 b]
      | 16 => us 16 = .bool m
      | 17 => us 17 = .bool true
      | 18 => us 18 = .bool true
      | 19 => us 19 = .bool true
      | 20 => us 20 = .int .u64 x
      | 21 => us 21 = .bool y
      | 22 => us 22 = .int .u64 x
      | 23 => us 23 = .bool y
      | 24 => us 24 = .bool true
      | 25 => us 25 = .bool true
      | 26 => us 26 = .bool true
      | _ => True) (fun _ W W' => Grows W W') (fun W => Below wn.heap.size wn W) rfl ?hBA ?hfrA ?hlocA ?hstA ?hG0A ?hGA ?hopA ?hendA
  case hBA => kernel_rfl
  case hfrA =>
    intro us
    simp only [List.length_cons, List.length_nil, Nat.zero_add, Nat.reduceAdd, putO, dstO]
    go_simp
    rfl
  case hlocA =>
    intro i us us' W h hf
    match i with
    | 0 =>
      have e0 := h 0 (.inl rfl)
      try dsimp only at hf ⊢
      rw [e0] at hf
      exact hf
    | 1 =>
      have e1 := h 1 (.inl rfl)
      try dsimp only at hf ⊢
      rw [e1] at hf
      exact hf
    | 2 =>
      have e2 := h 2 (.inl rfl)
      try dsimp only at hf ⊢
      rw [e2] at hf
      exact hf
    | 3 =>
      have e3 := h 3 (.inl rfl)
      try dsimp only at hf ⊢
      rw [e3] at hf
      exact hf
    | 4 =>
      have e4 := h 4 (.inl rfl)
      try dsimp only at hf ⊢
      rw [e4] at hf
      exact hf
    | 5 =>
      have e5 := h 5 (.inl rfl)
      try dsimp only at hf ⊢
      rw [e5] at hf
      exact hf
    | 6 =>
      have e6 := h 6 (.inl rfl)
      try dsimp only at hf ⊢
      rw [e6] at hf
      exact hf
    | 7 =>
      have e7 := h 7 (.inl rfl)
      try dsimp only at hf ⊢
      rw [e7] at hf
      exact hf
    | 8 =>
      have e8 := h 8 (.inl rfl)
      try dsimp only at hf ⊢
      rw [e8] at hf
      exact hf
    | 9 =>
      have e9 := h 9 (.inl rfl)
      try dsimp only at hf ⊢
      rw [e9] at hf
      exact hf
    | 10 =>
      have e10 := h 10 (.inl rfl)
      try dsimp only at hf ⊢
      rw [e10] at hf
      exact hf
    | 11 =>
      have e11 := h 11 (.inl rfl)
      try dsimp only at hf ⊢
      rw [e11] at hf
      exact hf
    | 12 =>
      have e12 := h 12 (.inl rfl)
      try dsimp only at hf ⊢
      rw [e12] at hf
      exact hf
    | 13 =>
      have e13 := h 13 (.inl rfl)
      try dsimp only at hf ⊢
      rw [e13] at hf
      exact hf
    | 14 =>
      have e14 := h 14 (.inl rfl)
      try dsimp only at hf ⊢
      rw [e14] at hf
      exact hf
    | 15 =>
      have e15 := h 15 (.inl rfl)
      try dsimp only at hf ⊢
      rw [e15] at hf
      exact hf
    | 16 =>
      have e16 := h 16 (.inl rfl)
      try dsimp only at hf ⊢
      rw [e16] at hf
      exact hf
    | 17 =>
      have e17 := h 17 (.inl rfl)
      try dsimp only at hf ⊢
      rw [e17] at hf
      exact hf
    | 18 =>
      have e18 := h 18 (.inl rfl)
      try dsimp only at hf ⊢
      rw [e18] at hf
      exact hf
    | 19 =>
      have e19 := h 19 (.inl rfl)
      try dsimp only at hf ⊢
      rw [e19] at hf
      exact hf
    | 20 =>
      have e20 := h 20 (.inl rfl)
      try dsimp only at hf ⊢
      rw [e20] at hf
      exact hf
    | 21 =>
      have e21 := h 21 (.inl rfl)
      try dsimp only at hf ⊢
      rw [e21] at hf
      exact hf
    | 22 =>
      have e22 := h 22 (.inl rfl)
      try dsimp only at hf ⊢
      rw [e22] at hf
      exact hf
    | 23 =>
      have e23 := h 23 (.inl rfl)
      try dsimp only at hf ⊢
      rw [e23] at hf
      exact hf
    | 24 =>
      have e24 := h 24 (.inl rfl)
      try dsimp only at hf ⊢
      rw [e24] at hf
      exact hf
    | 25 =>
      have e25 := h 25 (.inl rfl)
      try dsimp only at hf ⊢
      rw [e25] at hf
      exact hf
    | 26 =>
      have e26 := h 26 (.inl rfl)
      try dsimp only at hf ⊢
      rw [e26] at hf
      exact hf
    | n + 27 => trivial
  case hstA =>
    intro i j us W W' hne hw hi hj hE hf
    match i with
    | 0 => exact hf
    | 1 => exact hf
    | 2 => exact hf
    | 3 => exact hf
    | 4 => exact hf
    | 5 => exact hf
    | 6 => exact hf
    | 7 => exact hf
    | 8 => exact hf
    | 9 => exact hf
    | 10 => exact hf
    | 11 => exact hf
    | 12 => exact hf
    | 13 => exact hf
    | 14 => exact hf
    | 15 => exact hf
    | 16 => exact hf
    | 17 => exact hf
    | 18 => exact hf
    | 19 => exact hf
    | 20 => exact hf
    | 21 => exact hf
    | 22 => exact hf
    | 23 => exact hf
    | 24 => exact hf
    | 25 => exact hf
    | 26 => exact hf
    | n + 27 => trivial
  case hG0A =>
    exact (Below.refl _ wn).drew
  case hGA =>
    intro j W W' hE hg
    exact hg.trans (hE.mono hg.size)
  case hopA =>
    intro i hi us W hg hd hq
    match i, hi with
    | 0, _ =>
      clear hd hq
      refine all_value rfl rfl (.bool true) W (by go_simp) ?_ ?_
      · exact Grows.refl _
      · rfl
    | 1, _ =>
      have h0 : us 0 = .bool true := hd 0 (by kernel_rfl)
      clear hd hq
      refine all_value rfl rfl (.bool true) W (by go_simp) ?_ ?_
      · exact Grows.refl _
      · rfl
    | 2, _ =>
      have h1 : us 1 = .bool true := hd 1 (by kernel_rfl)
      clear hd hq
      rw [h1]
      have c0 := (hg.cell (p := ⟨w.heap.size, 0, none⟩) HLT.out).trans s0
      have c1 := (hg.cell (p := ⟨w.heap.size, 1, none⟩) HLT.out).trans s1
      refine all_value rfl rfl (.agg #[.int .u64 a, .int .u64 b]) W (by go_simp) ?_ ?_
      · exact Grows.refl _
      · rfl
    | 3, _ =>
      have h1 : us 1 = .bool true := hd 1 (by kernel_rfl)
      clear hd hq
      rw [h1]
      refine all_value rfl rfl (.int .u64 x) W (by go_simp) ?_ ?_
      · exact Grows.refl _
      · rfl
    | 4, _ =>
      have h1 : us 1 = .bool true := hd 1 (by kernel_rfl)
      clear hd hq
      rw [h1]
      refine all_value rfl rfl (.int .i64 a2) W (by go_simp) ?_ ?_
      · exact Grows.refl _
      · rfl
    | 5, _ =>
      have h2 : us 2 = .agg #[.int .u64 a, .int .u64 b] := hd 2 (by kernel_rfl)
      have h3 : us 3 = .int .u64 x := hd 3 (by kernel_rfl)
      have h4 : us 4 = .int .i64 a2 := hd 4 (by kernel_rfl)
      have h1 : us 1 = .bool true := hd 1 (by kernel_rfl)
      clear hd hq
      rw [h1]
      refine all_call rfl rfl 9 #[.agg #[.int .u64 a, .int .u64 b], .int .u64 x, .int .i64 a2] (by go_simp) ?_
      exact (M1.out _).mono fun _ W' ⟨he, hb⟩ => ⟨_, he, hb, rfl⟩
    | 6, _ =>
      have h1 : us 1 = .bool true := hd 1 (by kernel_rfl)
      clear hd hq
      rw [h1]
      have c0 := (hg.cell (p := ⟨w.heap.size, 0, none⟩) HLT.out).trans s0
      have c1 := (hg.cell (p := ⟨w.heap.size, 1, none⟩) HLT.out).trans s1
      refine all_value rfl rfl (.agg #[.int .u64 a, .int .u64 b]) W (by go_simp) ?_ ?_
      · exact Grows.refl _
      · rfl
    | 7, _ =>
      have h1 : us 1 = .bool true := hd 1 (by kernel_rfl)
      clear hd hq
      rw [h1]
      refine all_value rfl rfl (.int .u64 x) W (by go_simp) ?_ ?_
      · exact Grows.refl _
      · rfl
    | 8, _ =>
      have h1 : us 1 = .bool true := hd 1 (by kernel_rfl)
      clear hd hq
      rw [h1]
      refine all_value rfl rfl (.int .i64 a2) W (by go_simp) ?_ ?_
      · exact Grows.refl _
      · rfl
    | 9, _ =>
      have h6 : us 6 = .agg #[.int .u64 a, .int .u64 b] := hd 6 (by kernel_rfl)
      have h7 : us 7 = .int .u64 x := hd 7 (by kernel_rfl)
      have h8 : us 8 = .int .i64 a2 := hd 8 (by kernel_rfl)
      have h1 : us 1 = .bool true := hd 1 (by kernel_rfl)
      clear hd hq
      rw [h1]
      refine all_call rfl rfl 10 #[.agg #[.int .u64 a, .int .u64 b], .int .u64 x, .int .i64 a2] (by go_simp) ?_
      exact (M2.out _).mono fun _ W' ⟨he, hb⟩ => ⟨_, he, hb, rfl⟩
    | 10, _ =>
      have h5 : us 5 = .int .i64 c := hd 5 (by kernel_rfl)
      have h9 : us 9 = .int .i64 c := hd 9 (by kernel_rfl)
      have h1 : us 1 = .bool true := hd 1 (by kernel_rfl)
      clear hd hq
      rw [h1]
      refine all_value rfl rfl (.bool true) W (by go_simp) ?_ ?_
      · exact Grows.refl _
      · rfl
    | 11, _ =>
      have h1 : us 1 = .bool true := hd 1 (by kernel_rfl)
      have h10 : us 10 = .bool true := hd 10 (by kernel_rfl)
      clear hd hq
      refine all_value rfl rfl (.bool true) W (by go_simp) ?_ ?_
      · exact Grows.refl _
      · rfl
    | 12, _ =>
      have h11 : us 11 = .bool true := hd 11 (by kernel_rfl)
      clear hd hq
      refine all_value rfl rfl (.bool true) W (by go_simp) ?_ ?_
      · exact Grows.refl _
      · rfl
    | 13, _ =>
      have h12 : us 12 = .bool true := hd 12 (by kernel_rfl)
      clear hd hq
      rw [h12]
      have c0 := (hg.cell (p := ⟨w.heap.size, 0, none⟩) HLT.out).trans s0
      have c1 := (hg.cell (p := ⟨w.heap.size, 1, none⟩) HLT.out).trans s1
      refine all_value rfl rfl (.agg #[.int .u64 a, .int .u64 b]) W (by go_simp) ?_ ?_
      · exact Grows.refl _
      · rfl
    | 14, _ =>
      have h13 : us 13 = .agg #[.int .u64 a, .int .u64 b] := hd 13 (by kernel_rfl)
      have h12 : us 12 = .bool true := hd 12 (by kernel_rfl)
      clear hd hq
      rw [h12]
      refine all_call rfl rfl 11 #[.agg #[.int .u64 a, .int .u64 b]] (by go_simp) ?_
      exact (M3.out _).mono fun _ W' ⟨he, hb⟩ => ⟨_, he, hb, rfl⟩
    | 15, _ =>
      have h12 : us 12 = .bool true := hd 12 (by kernel_rfl)
      clear hd hq
      rw [h12]
      have c0 := (hg.cell (p := ⟨w.heap.size, 0, none⟩) HLT.out).trans s0
      have c1 := (hg.cell (p := ⟨w.heap.size, 1, none⟩) HLT.out).trans s1
      refine all_value rfl rfl (.agg #[.int .u64 a, .int .u64 b]) W (by go_simp) ?_ ?_
      · exact Grows.refl _
      · rfl
    | 16, _ =>
      have h15 : us 15 = .agg #[.int .u64 a, .int .u64 b] := hd 15 (by kernel_rfl)
      have h12 : us 12 = .bool true := hd 12 (by kernel_rfl)
      clear hd hq
      rw [h12]
      refine all_call rfl rfl 12 #[.agg #[.int .u64 a, .int .u64 b]] (by go_simp) ?_
      exact (M4.out _).mono fun _ W' ⟨he, hb⟩ => ⟨_, he, hb, rfl⟩
    | 17, _ =>
      have h14 : us 14 = .bool m := hd 14 (by kernel_rfl)
      have h16 : us 16 = .bool m := hd 16 (by kernel_rfl)
      have h12 : us 12 = .bool true := hd 12 (by kernel_rfl)
      clear hd hq
      rw [h12]
      refine all_value rfl rfl (.bool true) W (by go_simp) ?_ ?_
      · exact Grows.refl _
      · rfl
    | 18, _ =>
      have h12 : us 12 = .bool true := hd 12 (by kernel_rfl)
      have h17 : us 17 = .bool true := hd 17 (by kernel_rfl)
      clear hd hq
      refine all_value rfl rfl (.bool true) W (by go_simp) ?_ ?_
      · exact Grows.refl _
      · rfl
    | 19, _ =>
      have h18 : us 18 = .bool true := hd 18 (by kernel_rfl)
      clear hd hq
      refine all_value rfl rfl (.bool true) W (by go_simp) ?_ ?_
      · exact Grows.refl _
      · rfl
    | 20, _ =>
      have h19 : us 19 = .bool true := hd 19 (by kernel_rfl)
      clear hd hq
      rw [h19]
      refine all_value rfl rfl (.int .u64 x) W (by go_simp) ?_ ?_
      · exact Grows.refl _
      · rfl
    | 21, _ =>
      have h20 : us 20 = .int .u64 x := hd 20 (by kernel_rfl)
      have h19 : us 19 = .bool true := hd 19 (by kernel_rfl)
      clear hd hq
      rw [h19]
      refine all_call rfl rfl 13 #[.int .u64 x] (by go_simp) ?_
      exact (M5.out _).mono fun _ W' ⟨he, hb⟩ => ⟨_, he, hb ▸ Grows.refl _, rfl⟩
    | 22, _ =>
      have h19 : us 19 = .bool true := hd 19 (by kernel_rfl)
      clear hd hq
      rw [h19]
      refine all_value rfl rfl (.int .u64 x) W (by go_simp) ?_ ?_
      · exact Grows.refl _
      · rfl
    | 23, _ =>
      have h22 : us 22 = .int .u64 x := hd 22 (by kernel_rfl)
      have h19 : us 19 = .bool true := hd 19 (by kernel_rfl)
      clear hd hq
      rw [h19]
      refine all_call rfl rfl 14 #[.int .u64 x] (by go_simp) ?_
      exact (M6.out _).mono fun _ W' ⟨he, hb⟩ => ⟨_, he, hb ▸ Grows.refl _, rfl⟩
    | 24, _ =>
      have h21 : us 21 = .bool y := hd 21 (by kernel_rfl)
      have h23 : us 23 = .bool y := hd 23 (by kernel_rfl)
      have h19 : us 19 = .bool true := hd 19 (by kernel_rfl)
      clear hd hq
      rw [h19]
      refine all_value rfl rfl (.bool true) W (by go_simp) ?_ ?_
      · exact Grows.refl _
      · rfl
    | 25, _ =>
      have h19 : us 19 = .bool true := hd 19 (by kernel_rfl)
      have h24 : us 24 = .bool true := hd 24 (by kernel_rfl)
      clear hd hq
      refine all_value rfl rfl (.bool true) W (by go_simp) ?_ ?_
      · exact Grows.refl _
      · rfl
    | 26, _ =>
      have h25 : us 25 = .bool true := hd 25 (by kernel_rfl)
      clear hd hq
      refine all_value rfl rfl (.bool true) W (by go_simp) ?_ ?_
      · exact Grows.refl _
      · rfl
    | n + 27, h => exact absurd h (by simp)
  case hendA =>
    intro us W hg hf
    have h26 : us 26 = .bool true := hf 26 (by simp)
    clear hf
    rw [h26]
    have HG := Lib.hid (hB.trans (hg.mono hB.size))
    clear hg h26 hB
    go_wp2
    go_ret
    exact ⟨rfl, HG.out⟩

set_option maxRecDepth 100000 in
theorem lifted (os : Os) (started : os.Started) (H : Type) (enc : TypeId × Value → H) :
    ReturnsInHanded {} Try.checked os 3 .any (Rows.hashTellsSpec.pre6 enc Try.prog Try.f3 Rows.hashTellsRow.domain false) (Rows.hashTellsSpec.post enc Try.prog Try.f3 false true false false) := by
  refine returnsInHanded_of_change (C := Try.checked) own started (by kernel_rfl) Try.func3
    (ChangeSpec.witness6 (enc := enc) (C := Try.checked) false ⟨#[], #[.agg #[.int .u64 0, .int .u64 0], .int .u64 0, .int .i64 0], []⟩ 8 (by kernel_rfl) (by kernel_rfl) (by kernel_rfl) (by kernel_rfl)) ?_
  intro W base args ds gs before hval0 hW hcnd _
  have hval : ∀ (j : Nat) t v, Try.f3.params[j]? = some t → args[j]? = some v → Value.okWide Try.prog W .any base t v := hval0
  have hW' := hW
  obtain ⟨p, q, hA0, hV, rfl, hfz, hnd⟩ := hW
  have hA : DataW.TrodAll enc Try.prog W 0 (fun _ => true) true Try.f3.params.toList args.toList ds p := hA0
  rw [Try.params3] at hA hval
  obtain ⟨v0, vs0, d0, ds0, p0, q0, hargs, rfl, rfl, h0, r0⟩ := trodAll_cons hA
  obtain ⟨v1, vs1, d1, ds1, p1, q1, rfl, rfl, rfl, h1, r1⟩ := trodAll_cons r0
  obtain ⟨v2, vs2, d2, ds2, p2, q2, rfl, rfl, rfl, h2, r2⟩ := trodAll_cons r1
  obtain ⟨rfl, rfl, rfl⟩ := trodAll_nil r2
  obtain rfl : args = #[v0, v1, v2] := by cases args; simp_all
  obtain ⟨rfl, rfl⟩ := trodVars_none hV
  have k0 := h0
  have lt0 : ∀ x ∈ p0, x.block < W.heap.size := by obtain ⟨m, hm⟩ := k0; exact DataW.trod_lt m _ _ _ hm
  obtain ⟨c0, rfl, fit0⟩ := Op.open_flat (f := 9) (ks := [.u64, .u64]) (by kernel_rfl) (by kernel_rfl) (hval 0 24 v0 rfl rfl) h0
  obtain ⟨a0_0, a0_1, rfl, w0_0, w0_1⟩ := fit0_of fit0
  obtain ⟨a1, rfl, rfl, rfl, w1⟩ := open_int Try.underlying22 (hval 1 22 v1 rfl rfl) h1
  obtain ⟨a2, rfl, rfl, rfl, w2⟩ := open_int Try.underlying3 (hval 2 3 v2 rfl rfl) h2
  clear hA0 hval0
  refine (walk a0_0 a0_1 a1 a2 W w0_0 w0_1 w1 w2).mono fun e W' ⟨he, bel⟩ => ?_
  subst he
  exact ⟨_, rfl, _, _, _, [], _, [], hW', trodAll_mk1 (shut_bool Try.underlying4 _), (trodAll_cons_mk (Below.trod laidOut (by kernel_rfl) (of_decide_eq_true (by kernel_rfl)) k0 bel lt0) (trodAll_cons_mk (shut_int Try.underlying22 w1) (trodAll_cons_mk (shut_int Try.underlying3 w2) trodAll_mk0))), rfl, bel.frame _, fun h => by cases h⟩

theorem over : Rows.hashTellsRow.holds Try.pinned (OpenSpec.ofChange Rows.hashTellsSpec) :=
  OpenClaim.holds_of_wide 3 Try.f3 rfl rfl rfl rfl rfl rfl rfl ⟨rfl, rfl, rfl, rfl, rfl⟩ rfl rfl rfl rfl rfl (by kernel_rfl) Try.func3 (by kernel_rfl)
    (of_decide_eq_true (by kernel_rfl)) (by unfold Func.isWrapper; first | (rw [if_pos (by decide +kernel)]; kernel_rfl) | (rw [if_neg (by decide +kernel)]; exact ⟨rfl, rfl⟩))
    (fun os started H enc _ => lifted os started H enc)

/-- The statement. -/
theorem proved : Rows.HashTellsSaid := over
#print axioms proved
end Go.Proofs.Ytgaapahhmpiibaa.hashTells
