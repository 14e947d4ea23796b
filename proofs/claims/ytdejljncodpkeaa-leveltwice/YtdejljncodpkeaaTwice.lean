/-
  'skylight/skylightlaw05.LevelTwice' returns true for every input, and the input reads afterwards as it read before. Conditions: none.
-/
import Derived.Test.YtdejljncodpkeaaRows
import Derived.WalkKit
import Derived.ProofKit
import Derived.OpenShut
import Derived.ShutString
import Derived.ChangeOld
import Derived.Below
import Derived.Test.YtdejljncodpkeaaOpen
import Derived.Test.YtdejljncodpkeaaLOne
import Derived.Test.YtdejljncodpkeaaFacts3
namespace Go.Proofs.Ytdejljncodpkeaa.levelTwice
open Go.Proofs Go.Proofs.Lm Go.Proofs.Op Go.Proofs.Rw Go.Proofs.Rf
open Go.ChangeShapes Go.WideShapes Go.ChangeAt Go.RowKit
open Go.ChangeMaps (open_string shut_string)
set_option linter.unusedVariables false

theorem own : ownKnob Try.prog.godebug = none := by kernel_rfl
theorem laidOut : laidOutB Try.prog = true := by kernel_rfl

/-- A slice of integers that came in: nil, or a row of cells of its capacity, each fitting its kind. -/
def IsRow (k : IntKind) (w : World) (a : Option Addr) (len cap : Nat) (zs : List Int) : Prop :=
  (a = none ∧ len = 0 ∧ cap = 0 ∧ zs = []) ∨
  ∃ x, a = some x ∧ len ≤ cap ∧ cap ≤ maxLen ∧ zs.length = cap ∧ (∀ i, i < zs.length → w.cell? (x.add i) = some (.int k (zs.getD i 0))) ∧ ∀ n ∈ zs, (Lit.int k n).wf = true

theorem fit2_of {c : List Value} (h : Op.Fits [.u64, .u64, .u64, .u64] c) : ∃ x0 x1 x2 x3 : Int, c = [.int .u64 x0, .int .u64 x1, .int .u64 x2, .int .u64 x3] ∧ (Lit.int .u64 x0).wf = true ∧ (Lit.int .u64 x1).wf = true ∧ (Lit.int .u64 x2).wf = true ∧ (Lit.int .u64 x3).wf = true := by
  match c, h with
  | [_, _, _, _], ⟨⟨x0, e0, e0w⟩, ⟨x1, e1, e1w⟩, ⟨x2, e2, e2w⟩, ⟨x3, e3, e3w⟩, _⟩ =>
    subst e0; subst e1; subst e2; subst e3
    exact ⟨x0, x1, x2, x3, rfl, e0w, e1w, e2w, e3w⟩

theorem box_block {w wn : World} {o : Obj} (h : Below (w.alloc o).heap.size (w.alloc o) wn) : wn.heap[w.heap.size]? = some o := by
  rw [h.block _ (by simp)]
  exact heap_alloc_new w o
theorem box_below {w wn : World} {o : Obj} (h : Below (w.alloc o).heap.size (w.alloc o) wn) : Below w.heap.size w wn := ((Below.refl _ w).alloc (Nat.le_refl _) o).trans (h.mono (by simp))
open Go.Proofs.Lm (el two pairs wentN stayN leftN went stay one)
theorem own_base {w : World} {base base' : Nat} {v : Value} {xs : List Rw.Sp} (h : Own w base v xs) (hb : base' ≤ base) : Own w base' v xs := by
  refine ⟨h.1, ?_⟩
  rcases h.2 with h1 | ⟨g, cap, cur, hv, hg, r⟩
  · exact .inl h1
  · exact .inr ⟨g, cap, cur, hv, by omega, r⟩
open Go.Proofs.Rf

set_option maxRecDepth 100000 in
set_option maxHeartbeats 4000000 in
theorem walk (a0 : Option Addr) (len0 cap0 : Nat) (z0 : Nat → Nat → Int) (a1 : Option Addr) (len1 cap1 : Nat) (z1 : Nat → Nat → Int) (a2_0 a2_1 a2_2 a2_3 : Int) (w : World) (w0 : Op.FlatRow [.u64, .u64] w a0 len0 cap0 z0) (w1 : Op.FlatRow [.u64, .u64] w a1 len1 cap1 z1) (w2_0 : (Lit.int .u64 a2_0).wf = true) (w2_1 : (Lit.int .u64 a2_1).wf = true) (w2_2 : (Lit.int .u64 a2_2).wf = true) (w2_3 : (Lit.int .u64 a2_3).wf = true) :
    Calls Try.prog 6 #[.slice a0 len0 cap0, .slice a1 len1 cap1, .agg #[.int .u64 a2_0, .int .u64 a2_1, .int .u64 a2_2, .int .u64 a2_3]] w fun e w' => e = .returned (.bool true) ∧ Below w.heap.size w w' := by
  obtain ⟨xs, hxl, hX, _⟩ := sp_of_row w0
  obtain ⟨ys, hyl, hY, _⟩ := sp_of_row w1
  subst hxl
  subst hyl
  have HX := Lib.hid hX
  have HY := Lib.hid hY
  clear w0 w1 hX hY
  obtain ⟨b200, b201⟩ := bounds_u64 w2_0
  obtain ⟨n0, rfl⟩ : ∃ m : Nat, a2_0 = m := ⟨a2_0.toNat, by omega⟩
  obtain ⟨b210, b211⟩ := bounds_u64 w2_1
  obtain ⟨n1, rfl⟩ : ∃ m : Nat, a2_1 = m := ⟨a2_1.toNat, by omega⟩
  obtain ⟨b220, b221⟩ := bounds_u64 w2_2
  obtain ⟨n2, rfl⟩ : ∃ m : Nat, a2_2 = m := ⟨a2_2.toNat, by omega⟩
  obtain ⟨b230, b231⟩ := bounds_u64 w2_3
  obtain ⟨n3, rfl⟩ : ∃ m : Nat, a2_3 = m := ⟨a2_3.toNat, by omega⟩
  have ln0 : n0 < 18446744073709551616 := by omega
  have ln1 : n1 < 18446744073709551616 := by omega
  have ln2 : n2 < 18446744073709551616 := by omega
  have ln3 : n3 < 18446744073709551616 := by omega
  clear w2_0 b200 b201 w2_1 b210 b211 w2_2 b220 b221 w2_3 b230 b231
  obtain ⟨k, hk⟩ : ∃ k, n0 % 20 = k := ⟨_, rfl⟩
  obtain ⟨x, hx⟩ : ∃ x, n1 % 40 = x := ⟨_, rfl⟩
  obtain ⟨y, hy⟩ : ∃ y, n2 % 40 = y := ⟨_, rfl⟩
  have ek : (n0 : Int) % 20 = k := by omega
  have ex : (n1 : Int) % 40 = x := by omega
  have ey : (n2 : Int) % 40 = y := by omega
  have hkl : k < 20 := by omega
  have hxl : x < 40 := by omega
  have hyl : y < 40 := by omega
  clear hk hx hy
  by_cases hc : xs.length ≤ 20 ∧ ys.length ≤ 20
  · obtain ⟨hc1, hc2⟩ := hc
    by_cases hl : xs.length ≤ k + 1
    · have hd : ¬ ((1 : Int) + k < xs.length) := by omega
      obtain ⟨z, hz⟩ : ∃ z, x + y = z := ⟨_, rfl⟩
      have ez : (x : Int) + y = z := by omega
      have hroom : roomOf (1 + (k : Int)) = k + 1 := by unfold roomOf; omega
      have p1 := fun (W : World) (hb : Below w.heap.size w W) => push_any xs ys (1 + (k : Int)) z n3 (by omega) (by omega) (by omega) W w.heap.size a0 a1 cap0 cap1 (HX.out.below hb) (HY.out.below hb) hb.size
      have p2 := fun (W : World) (hb : Below w.heap.size w W) => push_any xs ys (1 + (k : Int)) x n3 (by omega) (by omega) (by omega) W w.heap.size a0 a1 cap0 cap1 (HX.out.below hb) (HY.out.below hb) hb.size
      simp only [hroom] at p1 p2
      have hal : (xs ++ ys).length ≤ 40 := by rw [List.length_append]; omega
      obtain ⟨al, has⟩ : ∃ l, xs ++ ys = l := ⟨_, rfl⟩
      rw [has] at hal
      simp only [has] at p1 p2
      have f1 := Lm.twice_stay al n3 x y (k + 1) (by omega)
      have f2 := Lm.twice_went al n3 x y (k + 1) (by omega)
      rw [hz] at f1 f2
      have b1 := Lm.leftN_le al.length z (k + 1) (by omega)
      have b2 := Lm.leftN_le al.length x (k + 1) (by omega)
      have b3 := Lm.leftN_le (stay al n3 x (k + 1)).length y (k + 1) (by omega)
      have b4 := Lm.stayN_le (n := al.length) (many := z) (room := k + 1)
      have b5 := Lm.stayN_le (n := al.length) (many := x) (room := k + 1)
      have b6 := Lm.wentN_half al.length z (k + 1)
      have b7 := Lm.wentN_half al.length x (k + 1)
      have b8 := Lm.wentN_half (stay al n3 x (k + 1)).length y (k + 1)
      rw [← Lm.stay_len al n3] at b4 b5
      rw [← Lm.went_len al n3] at b6 b7
      rw [← Lm.went_len (stay al n3 x (k + 1)) n3] at b8
      obtain ⟨sA, hsA⟩ : ∃ l, stay al n3 z (k + 1) = l := ⟨_, rfl⟩
      obtain ⟨wA, hwA⟩ : ∃ l, went al n3 z (k + 1) = l := ⟨_, rfl⟩
      obtain ⟨KA, hKA⟩ : ∃ l, leftN al.length z (k + 1) = l := ⟨_, rfl⟩
      obtain ⟨sC, hsC⟩ : ∃ l, stay al n3 x (k + 1) = l := ⟨_, rfl⟩
      obtain ⟨wC, hwC⟩ : ∃ l, went al n3 x (k + 1) = l := ⟨_, rfl⟩
      obtain ⟨KC, hKC⟩ : ∃ l, leftN al.length x (k + 1) = l := ⟨_, rfl⟩
      simp only [hsA, hwA, hKA, hsC, hwC, hKC] at p1 p2 f1 f2 b1 b2 b3 b4 b5 b6 b7 b8
      have p3 := fun (W : World) (b : Nat) (h : Lies spL W W.heap.size (.slice (some ⟨b, 0, none⟩) sC.length sC.length) sC) => push_any sC [] (1 + (k : Int)) y n3 (by simp; omega) (by omega) (by omega) W W.heap.size (some ⟨b, 0, none⟩) none sC.length 0 h (Lies.nil _ _ (by unfold maxLen; omega)) (Nat.le_refl _)
      simp only [hroom, List.append_nil, List.length_nil, f1] at p3
      obtain ⟨wE, hwE⟩ : ∃ l, went sC n3 y (k + 1) = l := ⟨_, rfl⟩
      obtain ⟨KE, hKE⟩ : ∃ l, leftN sC.length y (k + 1) = l := ⟨_, rfl⟩
      simp only [hwE, hKE] at p3 f2 b3 b8
      have gA : sA.length ≤ 10000000 := by omega
      have gC : wC.length ≤ 1000000 := by omega
      have gE : wE.length ≤ 1000000 := by omega
      have gB : wA.length ≤ 1000000 := by omega
      have eKA : min KA 100 = KA := by omega
      have eKC : min KC 100 = KC := by omega
      have eKE : min KE 100 = KE := by omega
      have heq : (wC ++ List.replicate (min KC 100) (n3, n3)) ++ (wE ++ List.replicate (min KE 100) (n3, n3)) = wA ++ List.replicate (min KA 100) (n3, n3) := by rw [eKA, eKC, eKE]; exact f2
      have gall : (wA ++ List.replicate (min KA 100) (n3, n3)).length ≤ 10000000 := by simp; omega
      have q1 := fun (W : World) (A : Option Addr) (c : Nat) (h : Lies spL W W.heap.size (.slice A wA.length c) wA) => ones_any wA KA n3 gB W A c h
      obtain ⟨LA, hLA⟩ : ∃ l, wA ++ List.replicate (min KA 100) (n3, n3) = l := ⟨_, rfl⟩
      simp only [hLA] at heq gall q1
      have Q1 := Lib.hid q1
      have P1 := Lib.hid p1
      have P2 := Lib.hid p2
      have P3 := Lib.hid p3
      have EQ := Lib.hid heq
      clear p1 p2 p3 f1 f2 hsA hwA hKA hsC hwC hKC hwE hKE heq hLA q1 has hroom eKA eKC eKE hz b1 b2 b3 b6
      go_enter Try.func6, Try.ntmps6
      go_upto_region 8 with (first
        | (go_at_call 8; refine (awake_any _).mono ?_; rintro e wn ⟨rfl, hn⟩; have hbx := box_block hn; have hlt := lt_of hbx; have s0 : wn.cell? ⟨w.heap.size, 0, none⟩ = some (.int .u64 n0) := (by simp [World.cell?, hbx]); have s1 : wn.cell? ⟨w.heap.size, 1, none⟩ = some (.int .u64 n1) := (by simp [World.cell?, hbx]); have s2 : wn.cell? ⟨w.heap.size, 2, none⟩ = some (.int .u64 n2) := (by simp [World.cell?, hbx]); have s3 : wn.cell? ⟨w.heap.size, 3, none⟩ = some (.int .u64 n3) := (by simp [World.cell?, hbx]); have HB := Lib.hid (box_below hn); clear hbx hn)
        | (go_at_call 9; refine (come_yes _ _ hc1 hc2 _ _ _ _ _).mono ?_; rintro e wm ⟨rfl, rfl⟩)
        | (go_at_call 10; (with_reducible refine (P1.out _ HB.out).mono ?_); rintro e w1 ⟨b1, c1, rfl, _, _, _, o1, o2, hb⟩; have S1 := Lib.hid (Lies.of_own (L := spL) o1); have V1 := Lib.hid (Lies.of_own (L := spL) o2); replace HB := Lib.hid (thn HB.out hb); replace s3 := (hb.cell (p := ⟨w.heap.size, 3, none⟩) hlt).trans s3; replace hlt := Nat.lt_of_lt_of_le hlt hb.size; clear hb o1 o2))
      go_upto_region 9 with (go_at_call 10; (with_reducible refine (P2.out _ HB.out).mono ?_); rintro e w2 ⟨b2, c2, rfl, _, _, _, o1, o2, hb⟩; have S2 := Lib.hid (Lies.of_own (L := spL) o1); have V2 := Lib.hid (Lies.of_own (L := spL) o2); replace HB := Lib.hid (thn HB.out hb); replace S1 := Lib.hid (S1.out.grow hb); replace V1 := Lib.hid (V1.out.grow hb); replace s3 := (hb.cell (p := ⟨w.heap.size, 3, none⟩) hlt).trans s3; replace hlt := Nat.lt_of_lt_of_le hlt hb.size; clear hb o1 o2)
      go_upto_region 10 with (go_at_call 10; (with_reducible refine (P3.out _ _ S2.out).mono ?_); rintro e w3 ⟨b3, c3, rfl, _, _, _, o1, o2, hb⟩; have S3 := Lib.hid (Lies.of_own (L := spL) o1); have V3 := Lib.hid (Lies.of_own (L := spL) o2); replace HB := Lib.hid (thn HB.out hb); replace S1 := Lib.hid (S1.out.grow hb); replace V1 := Lib.hid (V1.out.grow hb); replace V2 := Lib.hid (V2.out.grow hb); replace s3 := (hb.cell (p := ⟨w.heap.size, 3, none⟩) hlt).trans s3; replace hlt := Nat.lt_of_lt_of_le hlt hb.size; clear hb o1 o2)
      go_upto_region 11 with (go_at_call 18; refine (Q1.out _ _ _ V1.out).mono ?_; rintro e w4 ⟨vA, rfl, oA, hb⟩; obtain ⟨AA, dA, rfl, _, _⟩ := own_form oA; have ALL := Lib.hid (Lies.of_own (L := spL) oA); replace HB := Lib.hid (thn HB.out hb); replace S1 := Lib.hid (S1.out.grow hb); replace S3 := Lib.hid (S3.out.grow hb); replace V2 := Lib.hid (V2.out.grow hb); replace V3 := Lib.hid (V3.out.grow hb); replace s3 := (hb.cell (p := ⟨w.heap.size, 3, none⟩) hlt).trans s3; replace hlt := Nat.lt_of_lt_of_le hlt hb.size; clear hb oA)
      have HLT := Lib.hid hlt
      refine region_tail (fr := ?frA) 10 [84, 85, 86, 87, 88, 89, 90, 91, 92, 93] (fun i v W => match i with
          | 0 => v = .slice (some ⟨c2, 0, none⟩) wC.length wC.length
          | 1 => v = .int .u64 (KC : Int)
          | 2 => v = .pointer (some ⟨w.heap.size, 3, none⟩)
          | 3 => v = .int .u64 (n3 : Int)
          | 4 => Own W w4.heap.size v (wC ++ List.replicate (min KC 100) (n3, n3))
          | 5 => v = .slice (some ⟨c3, 0, none⟩) wE.length wE.length
          | 6 => v = .int .u64 (KE : Int)
          | 7 => v = .pointer (some ⟨w.heap.size, 3, none⟩)
          | 8 => v = .int .u64 (n3 : Int)
          | 9 => Own W w4.heap.size v (wE ++ List.replicate (min KE 100) (n3, n3))
          | _ => True) rfl ?hBA (by kernel_rfl) (by kernel_rfl) ?hfrA ?hFA ?hopA ?htailA
      case hBA => kernel_rfl
      case hfrA =>
        intro us
        simp only [putL]
        go_simp
        rfl
      case hFA =>
        intro i v W W' hG h
        match i with
        | 0 => exact h
        | 1 => exact h
        | 2 => exact h
        | 3 => exact h
        | 4 => exact (own_below h hG)
        | 5 => exact h
        | 6 => exact h
        | 7 => exact h
        | 8 => exact h
        | 9 => exact (own_below h hG)
        | n + 10 => trivial
      case hopA =>
        intro i hi us W2 hG hd
        match i, hi with
        | 0, _ =>
          clear hd
          exact hop_value rfl rfl rfl (v := .slice (some ⟨c2, 0, none⟩) wC.length wC.length) (W' := W2) (by go_simp) (Grows.refl _) rfl
        | 1, _ =>
          clear hd
          exact hop_value rfl rfl rfl (v := .int .u64 (KC : Int)) (W' := W2) (by go_simp) (Grows.refl _) rfl
        | 2, _ =>
          clear hd
          exact hop_value rfl rfl rfl (v := .pointer (some ⟨w.heap.size, 3, none⟩)) (W' := W2) (by go_simp) (Grows.refl _) rfl
        | 3, _ =>
          have h2 : (us 2) = .pointer (some ⟨w.heap.size, 3, none⟩) := hd 2 (by omega) (by kernel_rfl)
          clear hd
          have c := (hG.cell (b := w.heap.size) (o := 3) HLT.out).trans s3
          exact hop_value rfl rfl rfl (v := .int .u64 (n3 : Int)) (W' := W2) (by go_simp) (Grows.refl _) rfl
        | 4, _ =>
          have h0 : (us 0) = .slice (some ⟨c2, 0, none⟩) wC.length wC.length := hd 0 (by omega) (by kernel_rfl)
          have h1 : (us 1) = .int .u64 (KC : Int) := hd 1 (by omega) (by kernel_rfl)
          have h3 : (us 3) = .int .u64 (n3 : Int) := hd 3 (by omega) (by kernel_rfl)
          clear hd
          refine hop_call rfl rfl rfl (f := 18) (args := #[.slice (some ⟨c2, 0, none⟩) wC.length wC.length, .int .u64 (KC : Int), .int .u64 (n3 : Int)]) (by go_simp) ?_
          exact (ones_any wC KC n3 gC W2 _ _ (V2.out.grow hG)).mono fun _ W' ⟨v, he, ho, hb⟩ => ⟨v, he, hb, own_base ho hG.size⟩
        | 5, _ =>
          clear hd
          exact hop_value rfl rfl rfl (v := .slice (some ⟨c3, 0, none⟩) wE.length wE.length) (W' := W2) (by go_simp) (Grows.refl _) rfl
        | 6, _ =>
          clear hd
          exact hop_value rfl rfl rfl (v := .int .u64 (KE : Int)) (W' := W2) (by go_simp) (Grows.refl _) rfl
        | 7, _ =>
          clear hd
          exact hop_value rfl rfl rfl (v := .pointer (some ⟨w.heap.size, 3, none⟩)) (W' := W2) (by go_simp) (Grows.refl _) rfl
        | 8, _ =>
          have h7 : (us 7) = .pointer (some ⟨w.heap.size, 3, none⟩) := hd 7 (by omega) (by kernel_rfl)
          clear hd
          have c := (hG.cell (b := w.heap.size) (o := 3) HLT.out).trans s3
          exact hop_value rfl rfl rfl (v := .int .u64 (n3 : Int)) (W' := W2) (by go_simp) (Grows.refl _) rfl
        | 9, _ =>
          have h5 : (us 5) = .slice (some ⟨c3, 0, none⟩) wE.length wE.length := hd 5 (by omega) (by kernel_rfl)
          have h6 : (us 6) = .int .u64 (KE : Int) := hd 6 (by omega) (by kernel_rfl)
          have h8 : (us 8) = .int .u64 (n3 : Int) := hd 8 (by omega) (by kernel_rfl)
          clear hd
          refine hop_call rfl rfl rfl (f := 18) (args := #[.slice (some ⟨c3, 0, none⟩) wE.length wE.length, .int .u64 (KE : Int), .int .u64 (n3 : Int)]) (by go_simp) ?_
          exact (ones_any wE KE n3 gE W2 _ _ (V3.out.grow hG)).mono fun _ W' ⟨v, he, ho, hb⟩ => ⟨v, he, hb, own_base ho hG.size⟩
        | d + 10, h => exact absurd h (by omega)
      case htailA =>
        intro us W2 hG hf
        have h4 : Own W2 w4.heap.size (us 4) (wC ++ List.replicate (min KC 100) (n3, n3)) := hf 4 (by omega)
        have h9 : Own W2 w4.heap.size (us 9) (wE ++ List.replicate (min KE 100) (n3, n3)) := hf 9 (by omega)
        clear hf
        obtain ⟨A4, d4, e4, _, _⟩ := own_form h4
        obtain ⟨A9, d9, e9, _, _⟩ := own_form h9
        rw [e4] at h4
        rw [e9] at h9
        rw [e4, e9]
        have HW2 := Lib.hid hG
        have HH4 := Lib.hid h4
        have HH9 := Lib.hid (Lies.of_own (L := spL) h9)
        clear e4 e9 h4 h9 hG
        simp only [List.drop_succ_cons, List.drop_zero]
        go_upto_region 12 with (at_builtin; refine wpList_app 33 _ 16 info_sp Try.underlying22 rfl (by decide) (by decide) _ rfl _ _ rfl w4.heap.size _ _ (wC ++ List.replicate (min KC 100) (n3, n3)) (wE ++ List.replicate (min KE 100) (n3, n3)) _ rfl HH4.out rfl HH9.out (sp_one _) (by simp; omega) HW2.out.size ?_; intro v' w5 ho3 hg3; have HO3 := Lib.hid ho3; have HB5 := Lib.hid (Below.grown HW2.out hg3 HW2.out.size (fun k hk => (HH4.out.lt k hk).1)); clear ho3 hg3)
        have ho := HO3.out
        rw [EQ.out] at ho
        obtain ⟨A5, d5, rfl, _, _⟩ := own_form ho
        have HL5 := Lib.hid (Lies.of_own (L := spL) ho)
        clear ho HO3
        have c1 := same_any sA gA w5 _ (Nat.le_refl _) _ _ _ _ (S1.out.grow HB5.out) (S3.out.grow HB5.out)
        have c2 := fun (W : World) (h : Below w5.heap.size w5 W) => same_any LA gall W _ (Nat.le_refl _) _ _ _ _ ((ALL.out.grow HB5.out).grow h) (HL5.out.grow h)
        have C1 := Lib.hid c1
        have C2 := Lib.hid c2
        have HB6 := Lib.hid (thn HB.out HB5.out)
        clear c1 c2
        go_wp2_with (first
          | (go_at_call 12; (with_reducible refine C1.out.mono ?_); rintro e ws ⟨rfl, hs1⟩; have HS1 := Lib.hid hs1; clear hs1)
          | (go_at_call 12; (with_reducible refine (C2.out _ HS1.out).mono ?_); rintro e wz ⟨rfl, hs2⟩; have HZ := Lib.hid (thn (thn HB6.out HS1.out) hs2); clear hs2))
        go_ret
        exact ⟨rfl, HZ.out⟩
    · have hd : (1 : Int) + k < xs.length := by omega
      clear hl
      go_enter Try.func6, Try.ntmps6
      go_wp2_with (first
        | (go_at_call 8; refine (awake_any _).mono ?_; rintro e wn ⟨rfl, hn⟩; have hbx := box_block hn; have hlt := lt_of hbx; have s0 : wn.cell? ⟨w.heap.size, 0, none⟩ = some (.int .u64 n0) := (by simp [World.cell?, hbx]); have s1 : wn.cell? ⟨w.heap.size, 1, none⟩ = some (.int .u64 n1) := (by simp [World.cell?, hbx]); have s2 : wn.cell? ⟨w.heap.size, 2, none⟩ = some (.int .u64 n2) := (by simp [World.cell?, hbx]); have s3 : wn.cell? ⟨w.heap.size, 3, none⟩ = some (.int .u64 n3) := (by simp [World.cell?, hbx]); have HB := Lib.hid (box_below hn); clear hbx hn)
        | (go_at_call 9; refine (come_yes _ _ hc1 hc2 _ _ _ _ _).mono ?_; rintro e wm ⟨rfl, rfl⟩))
      go_ret
      exact ⟨rfl, HB.out⟩
  · go_enter Try.func6, Try.ntmps6
    go_wp2_with (first
      | (go_at_call 8; refine (awake_any _).mono ?_; rintro e wn ⟨rfl, hn⟩; have hbx := box_block hn; have hlt := lt_of hbx; have s0 : wn.cell? ⟨w.heap.size, 0, none⟩ = some (.int .u64 n0) := (by simp [World.cell?, hbx]); have s1 : wn.cell? ⟨w.heap.size, 1, none⟩ = some (.int .u64 n1) := (by simp [World.cell?, hbx]); have s2 : wn.cell? ⟨w.heap.size, 2, none⟩ = some (.int .u64 n2) := (by simp [World.cell?, hbx]); have s3 : wn.cell? ⟨w.heap.size, 3, none⟩ = some (.int .u64 n3) := (by simp [World.cell?, hbx]); have HB := Lib.hid (box_below hn); clear hbx hn)
      | (go_at_call 9; refine (come_no _ _ hc _ _ _ _ _).mono ?_; rintro e wm ⟨rfl, rfl⟩))
    go_ret
    exact ⟨rfl, HB.out⟩

set_option maxRecDepth 100000 in
theorem lifted (os : Os) (started : os.Started) (H : Type) (enc : TypeId × Value → H) :
    ReturnsInHanded {} Try.checked os 6 .any (Rows.levelTwiceSpec.pre6 enc Try.prog Try.f6 Rows.levelTwiceRow.domain false) (Rows.levelTwiceSpec.post enc Try.prog Try.f6 false true false false) := by
  refine returnsInHanded_of_change (C := Try.checked) own started (by kernel_rfl) Try.func6
    (ChangeSpec.witness6 (enc := enc) (C := Try.checked) false ⟨#[], #[.slice none 0 0, .slice none 0 0, .agg #[.int .u64 0, .int .u64 0, .int .u64 0, .int .u64 0]], []⟩ 8 (by kernel_rfl) (by kernel_rfl) (by kernel_rfl) (by kernel_rfl)) ?_
  intro W base args ds gs before hval0 hW hcnd _
  have hval : ∀ (j : Nat) t v, Try.f6.params[j]? = some t → args[j]? = some v → Value.okWide Try.prog W .any base t v := hval0
  have hW' := hW
  obtain ⟨p, q, hA0, hV, rfl, hfz, hnd⟩ := hW
  have hA : DataW.TrodAll enc Try.prog W 0 (fun _ => true) true Try.f6.params.toList args.toList ds p := hA0
  rw [Try.params6] at hA hval
  obtain ⟨v0, vs0, d0, ds0, p0, q0, hargs, rfl, rfl, h0, r0⟩ := trodAll_cons hA
  obtain ⟨v1, vs1, d1, ds1, p1, q1, rfl, rfl, rfl, h1, r1⟩ := trodAll_cons r0
  obtain ⟨v2, vs2, d2, ds2, p2, q2, rfl, rfl, rfl, h2, r2⟩ := trodAll_cons r1
  obtain ⟨rfl, rfl, rfl⟩ := trodAll_nil r2
  obtain rfl : args = #[v0, v1, v2] := by cases args; simp_all
  obtain ⟨rfl, rfl⟩ := trodVars_none hV
  obtain ⟨a0, len0, cap0, rfl⟩ := okWide_slice Try.underlying22 (hval 0 22 v0 rfl rfl)
  have k0 := h0
  have lt0 : ∀ x ∈ p0, x.block < W.heap.size := by obtain ⟨m, hm⟩ := k0; exact DataW.trod_lt m _ _ _ hm
  obtain ⟨z0, w0⟩ := Op.open_flats (f := 9) (ks := [.u64, .u64]) Try.underlying22 (by kernel_rfl) (by kernel_rfl) (by decide) h0
  obtain ⟨a1, len1, cap1, rfl⟩ := okWide_slice Try.underlying22 (hval 1 22 v1 rfl rfl)
  have k1 := h1
  have lt1 : ∀ x ∈ p1, x.block < W.heap.size := by obtain ⟨m, hm⟩ := k1; exact DataW.trod_lt m _ _ _ hm
  obtain ⟨z1, w1⟩ := Op.open_flats (f := 9) (ks := [.u64, .u64]) Try.underlying22 (by kernel_rfl) (by kernel_rfl) (by decide) h1
  have k2 := h2
  have lt2 : ∀ x ∈ p2, x.block < W.heap.size := by obtain ⟨m, hm⟩ := k2; exact DataW.trod_lt m _ _ _ hm
  obtain ⟨c2, rfl, fit2⟩ := Op.open_flat (f := 9) (ks := [.u64, .u64, .u64, .u64]) (by kernel_rfl) (by kernel_rfl) (hval 2 39 v2 rfl rfl) h2
  obtain ⟨a2_0, a2_1, a2_2, a2_3, rfl, w2_0, w2_1, w2_2, w2_3⟩ := fit2_of fit2
  clear hA0 hval0
  refine (walk a0 len0 cap0 z0 a1 len1 cap1 z1 a2_0 a2_1 a2_2 a2_3 W w0 w1 w2_0 w2_1 w2_2 w2_3).mono fun e W' ⟨he, bel⟩ => ?_
  subst he
  exact ⟨_, rfl, _, _, _, [], _, [], hW', trodAll_mk1 (shut_bool Try.underlying4 _), (trodAll_cons_mk (Below.trod laidOut (by kernel_rfl) (of_decide_eq_true (by kernel_rfl)) k0 bel lt0) (trodAll_cons_mk (Below.trod laidOut (by kernel_rfl) (of_decide_eq_true (by kernel_rfl)) k1 bel lt1) (trodAll_cons_mk (Below.trod laidOut (by kernel_rfl) (of_decide_eq_true (by kernel_rfl)) k2 bel lt2) trodAll_mk0))), rfl, bel.frame _, fun h => by cases h⟩

theorem over : Rows.levelTwiceRow.holds Try.pinned (OpenSpec.ofChange Rows.levelTwiceSpec) :=
  OpenClaim.holds_of_wide 6 Try.f6 rfl rfl rfl rfl rfl rfl rfl ⟨rfl, rfl, rfl, rfl, rfl⟩ rfl rfl rfl rfl rfl (by kernel_rfl) Try.func6 (by kernel_rfl)
    (of_decide_eq_true (by kernel_rfl)) (by unfold Func.isWrapper; first | (rw [if_pos (by decide +kernel)]; kernel_rfl) | (rw [if_neg (by decide +kernel)]; exact ⟨rfl, rfl⟩))
    (fun os started H enc _ => lifted os started H enc)

/-- The statement. -/
theorem proved : Rows.LevelTwiceSaid := over
#print axioms proved
end Go.Proofs.Ytdejljncodpkeaa.levelTwice
