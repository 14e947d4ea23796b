/-
  'skylight/skylightlaw13.ScanTurns' returns true for every input, and the input reads afterwards as it read before. Conditions: none.
-/
import Derived.Test.YthncmjimfkbofaaRows
import Derived.WalkKit
import Derived.ProofKit
import Derived.OpenShut
import Derived.ShutString
import Derived.ChangeOld
import Derived.Below
import Derived.SizedLaws
import Derived.Test.YthncmjimfkbofaaJ02
import Derived.Test.YthncmjimfkbofaaJ18
import Derived.Test.YthncmjimfkbofaaJ14
namespace Go.Proofs.Ythncmjimfkbofaa.scanTurns
open Go.Proofs Go.Proofs.Lm Go.Proofs.Lh Go.Proofs.Rn Go.Proofs.Op Go.Proofs.Rw Go.Proofs.Rf Go.Proofs.Bu Go.Proofs.Sc Go.Proofs.Wm
open Go.ChangeShapes Go.WideShapes Go.ChangeAt Go.RowKit
open Go.ChangeMaps (open_string shut_string)
set_option linter.unusedVariables false

theorem own : ownKnob Try.prog.godebug = none := by kernel_rfl
theorem laidOut : laidOutB Try.prog = true := by kernel_rfl

/-- A slice of integers that came in: nil, or a row of cells of its capacity, each fitting its kind. -/
def IsRow (k : IntKind) (w : World) (a : Option Addr) (len cap : Nat) (zs : List Int) : Prop :=
  (a = none ∧ len = 0 ∧ cap = 0 ∧ zs = []) ∨
  ∃ x, a = some x ∧ len ≤ cap ∧ cap ≤ maxLen ∧ zs.length = cap ∧ (∀ i, i < zs.length → w.cell? (x.add i) = some (.int k (zs.getD i 0))) ∧ ∀ n ∈ zs, (Lit.int k n).wf = true

theorem fit2_of {c : List Value} (h : Op.Fits [.u64, .u64] c) : ∃ x0 x1 : Int, c = [.int .u64 x0, .int .u64 x1] ∧ (Lit.int .u64 x0).wf = true ∧ (Lit.int .u64 x1).wf = true := by
  cases c with
  | nil => exact h.elim
  | cons y0 c =>
  have g0 := h.1
  replace h := h.2
  cases c with
  | nil => exact h.elim
  | cons y1 c =>
  have g1 := h.1
  replace h := h.2
  cases c with
  | cons y c => exact h.elim
  | nil =>
  obtain ⟨x0, e0, e0w⟩ := g0
  obtain ⟨x1, e1, e1w⟩ := g1
  exact ⟨x0, x1, by rw [e0, e1], e0w, e1w⟩

open Go.Proofs.Rf
open Go.RowKit Go.Shelf Go.Proofs.Rw Go.Proofs.Lh Go.Proofs.Bu Go.Proofs.Sc Go.Proofs.Wm
set_option linter.unusedVariables false

theorem sized_open {H : Type} {enc : TypeId × Value → H} {P : Program} {w : World} {base : Nat} {spare : Nat → Bool} {held : Bool} {t e : TypeId} {a : Option Addr} {len cap : Nat} {d : DataW H} {p : List MemPlace} (ht : P.underlying t = some (.slice e)) (h : DataW.Trod enc P w base spare held t (.slice a len cap) d p) : len = 0 ∨ ∃ es sp, d = .slice es sp ∧ es.length = len := by
  obtain ⟨fuel, hf⟩ := h
  rcases Go.Deep.open_slice ht hf with ⟨hcs, _⟩ | ⟨a', len', cap', m, n, D, Pl, hcs, _, _, _, _, hx, _⟩
  · simp only [Value.cells, List.cons.injEq, Value.slice.injEq, and_true] at hcs
    exact .inl hcs.2.1
  · simp only [Value.cells, List.cons.injEq, Value.slice.injEq, and_true] at hcs
    injection hx with hd _
    exact .inr ⟨_, _, hd, by simp [hcs.2.1]⟩

set_option maxRecDepth 100000 in
set_option maxHeartbeats 4000000 in
theorem walk (a0 : Option Addr) (len0 cap0 : Nat) (z0 : Nat → Nat → Int) (a1 : Option Addr) (len1 cap1 : Nat) (z1 : Nat → Nat → Int) (a2_0 a2_1 : Int) (w : World) (w0 : Op.FlatRow [.u64, .u64, .u64] w a0 len0 cap0 z0) (sl0 : len0 ≤ 140737488355328) (w1 : Op.FlatRow [.u64, .u64, .u64] w a1 len1 cap1 z1) (sl1 : len1 ≤ 140737488355328) (w2_0 : (Lit.int .u64 a2_0).wf = true) (w2_1 : (Lit.int .u64 a2_1).wf = true) :
    Calls Try.prog 8 #[.slice a0 len0 cap0, .slice a1 len1 cap1, .agg #[.int .u64 a2_0, .int .u64 a2_1]] w fun e w' => e = .returned (.bool true) ∧ Below w.heap.size w w' := by
  obtain ⟨q0l, q0u⟩ := bounds_u64 w2_0
  obtain ⟨q1l, q1u⟩ := bounds_u64 w2_1
  obtain ⟨n0, rfl⟩ : ∃ l : Nat, a2_0 = l := ⟨a2_0.toNat, by omega⟩
  obtain ⟨n1, rfl⟩ : ∃ l : Nat, a2_1 = l := ⟨a2_1.toNat, by omega⟩
  have hn0 : n0 < 18446744073709551616 := by omega
  have hn1 : n1 < 18446744073709551616 := by omega
  obtain ⟨xs, hxl, hx, hxv⟩ := ev_of_row w0
  obtain ⟨ys, hyl, hy, hyv⟩ := ev_of_row w1
  clear w0 w1 w2_0 w2_1
  obtain ⟨W0, hW0⟩ : ∃ W, w.alloc (.cells #[.int .u64 (n0 : Int), .int .u64 (n1 : Int)] 45) = W := ⟨_, rfl⟩
  have p0 : W0.heap[w.heap.size]? = some (.cells #[.int .u64 (n0 : Int), .int .u64 (n1 : Int)] 45) := by rw [← hW0]; exact heap_alloc_new w _
  have b0 : Below w.heap.size w W0 := by rw [← hW0]; exact (Below.refl _ w).alloc (Nat.le_refl _) _
  have l0 : w.heap.size < W0.heap.size := lt_of p0
  have x0 : W0.cell? ⟨w.heap.size, 0, none⟩ = some (.int .u64 (n0 : Int)) := by simp [World.cell?, p0]
  have x1 : W0.cell? ⟨w.heap.size, 1, none⟩ = some (.int .u64 (n1 : Int)) := by simp [World.cell?, p0]
  have hx0 := (hx.below b0).mono b0.size
  have HW0 := Lib.hid hW0
  have B0 := Lib.hid b0
  have HX0 := Lib.hid hx0
  have hy0 := (hy.below b0).mono b0.size
  have HY0 := Lib.hid hy0
  have CC := Lib.hid (And.intro x0 (And.intro x1 l0))
  clear hW0 p0 b0 x0 x1 l0 hx0 hx hy hy0
  by_cases hlen : (len0 : Int) + (len1 : Int) ≤ 60
  · have hlb : xs.length + ys.length ≤ 60 := by omega
    go_enter Try.func8, Try.ntmps8
    go_upto_region 1 with (fail)
    rw [HW0.out]
    go_upto_region 2 with (go_at_call 18; (with_reducible refine (sawake_any _).mono ?_); rintro e w1 ⟨rfl, hb⟩; have HB1 := Lib.hid (thn B0.out hb); have HX1 := Lib.hid ((HX0.out.below hb).mono hb.size); have HY1 := Lib.hid ((HY0.out.below hb).mono hb.size); have HC1 := Lib.hid hb; clear hb)
    have O1 := Lib.hid (own_new (L := evL) w1 41 #[] 0 w1.heap.size [] rfl rfl (Nat.le_refl _) (by unfold maxLen; omega))
    have A1 := Lib.hid ((Below.refl _ w1).alloc (Nat.le_refl _) (.cells #[] 41))
    go_upto_region 5 with (first
      | (at_builtin; refine wpList_app 41 _ 24 info_event Try.underlying27 rfl (by decide) (by decide) _ rfl _ _ rfl w1.heap.size _ _ ([] : List Ev) (xs) _ rfl O1.out rfl (HX1.out.below A1.out) (ev_one _) (by first | (simp; done) | (simp; omega)) (by have := A1.out.size; first | omega | (simp; omega)) ?_; intro v2 w2 ho hg; have h3 : ∀ q, Value.ownBlock _ = some q → w1.heap.size ≤ q := (fun q hq => (O1.out.lt q hq).1); have HO2 := Lib.hid ho; have HB2 := Lib.hid (A1.out.grown hg A1.out.size h3); clear ho hg h3)
      | (at_builtin; refine wpList_app 41 _ 24 info_event Try.underlying27 rfl (by decide) (by decide) _ rfl _ _ rfl w1.heap.size _ _ ([] ++ xs) (ys) _ rfl HO2.out rfl (HY1.out.below HB2.out) (ev_one _) (by first | (simp; done) | (simp; omega)) (by have := HB2.out.size; first | omega | (simp; omega)) ?_; intro v3 w3 ho hg; have h3 : ∀ q, Value.ownBlock _ = some q → w1.heap.size ≤ q := (fun q hq => (HO2.out.lt q hq).1); have HO3 := Lib.hid ho; have HB3 := Lib.hid (HB2.out.grown hg HB2.out.size h3); clear ho hg h3))
    have hx3 := (HX1.out.below HB3.out).mono HB3.out.size
    have hy3 := (HY1.out.below HB3.out).mono HB3.out.size
    have HX3 := Lib.hid hx3
    have HY3 := Lib.hid hy3
    have O3 := Lib.hid (own_new (L := evL) w3 41 #[] 0 w3.heap.size [] rfl rfl (Nat.le_refl _) (by unfold maxLen; omega))
    have A3 := Lib.hid ((Below.refl _ w3).alloc (Nat.le_refl _) (.cells #[] 41))
    clear hx3 hy3
    go_upto_region 6 with (first
      | (at_builtin; refine wpList_app 41 _ 24 info_event Try.underlying27 rfl (by decide) (by decide) _ rfl _ _ rfl w3.heap.size _ _ ([] : List Ev) (ys) _ rfl O3.out rfl (HY3.out.below A3.out) (ev_one _) (by first | (simp; done) | (simp; omega)) (by have := A3.out.size; first | omega | (simp; omega)) ?_; intro v4 w4 ho hg; have h3 : ∀ q, Value.ownBlock _ = some q → w3.heap.size ≤ q := (fun q hq => (O3.out.lt q hq).1); have HO4 := Lib.hid ho; have HB4 := Lib.hid (A3.out.grown hg A3.out.size h3); clear ho hg h3)
      | (at_builtin; refine wpList_app 41 _ 24 info_event Try.underlying27 rfl (by decide) (by decide) _ rfl _ _ rfl w3.heap.size _ _ ([] ++ ys) (xs) _ rfl HO4.out rfl (HX3.out.below HB4.out) (ev_one _) (by first | (simp; done) | (simp; omega)) (by have := HB4.out.size; first | omega | (simp; omega)) ?_; intro v5 w5 ho hg; have h3 : ∀ q, Value.ownBlock _ = some q → w3.heap.size ≤ q := (fun q hq => (HO4.out.lt q hq).1); have HO5 := Lib.hid ho; have HB5 := Lib.hid (HB4.out.grown hg HB4.out.size h3); clear ho hg h3))
    have hall := HC1.out.trans ((HB3.out.trans (HB5.out.mono HB3.out.size)).mono HC1.out.size)
    obtain ⟨x0, x1, l0⟩ := CC.out
    have X0 := (hall.cell (p := ⟨w.heap.size, 0, none⟩) l0).trans x0
    have X1 := (hall.cell (p := ⟨w.heap.size, 1, none⟩) l0).trans x1
    have l0' := Nat.lt_of_lt_of_le l0 hall.size
    go_upto_region 7 with (fail)
    obtain ⟨sA, eA⟩ : ∃ s : Nat, (1 : Int) + (n0 : Int) % 1000 = (s : Int) := ⟨1 + n0 % 1000, by omega⟩
    obtain ⟨sB, eB⟩ : ∃ s : Nat, (n1 : Int) % 1000 = (s : Int) := ⟨n1 % 1000, by omega⟩
    have hsA : sA < 18446744073709551616 := by omega
    have hsB : sB < 18446744073709551616 := by omega
    rw [eA, eB]
    clear eA eB
    obtain ⟨W6, hW6⟩ : ∃ W, w5.alloc (.cells #[.int .u64 (sA : Int), .int .u64 (sB : Int)] 47) = W := ⟨_, rfl⟩
    rw [hW6]
    have p6 : W6.heap[w5.heap.size]? = some (.cells #[.int .u64 (sA : Int), .int .u64 (sB : Int)] 47) := by rw [← hW6]; exact heap_alloc_new w5 _
    have b6 : Below w5.heap.size w5 W6 := by rw [← hW6]; exact (Below.refl _ w5).alloc (Nat.le_refl _) _
    obtain ⟨sb, hsb⟩ : ∃ b, w5.heap.size = b := ⟨_, rfl⟩
    rw [hsb] at p6 ⊢
    have s0 : W6.cell? ⟨sb, 0, none⟩ = some (.int .u64 (sA : Int)) := by simp [World.cell?, p6]
    have s1 : W6.cell? ⟨sb, 1, none⟩ = some (.int .u64 (sB : Int)) := by simp [World.cell?, p6]
    have ls : sb < W6.heap.size := lt_of p6
    have x0 := (b6.cell (p := ⟨w.heap.size, 0, none⟩) l0').trans X0
    have x1 := (b6.cell (p := ⟨w.heap.size, 1, none⟩) l0').trans X1
    have lx := Nat.lt_of_lt_of_le l0' b6.size
    clear X0 X1 l0 l0' hall
    have ho3 := HO3.out
    have ho5 := HO5.out
    rw [List.nil_append] at ho3 ho5
    obtain ⟨A3, c3, rfl, -, -⟩ := own_form ho3
    obtain ⟨A5, c5, rfl, -, -⟩ := own_form ho5
    have b36 := HB5.out.trans (b6.mono HB5.out.size)
    have lb := ((Lies.of_own ho3).below b36).mono b36.size
    have lo := ((Lies.of_own ho5).below b6).mono b6.size
    have lX := (HX3.out.below b36).mono b36.size
    have lY := (HY3.out.below b36).mono b36.size
    have HB6 := Lib.hid (thn HB1.out (HB3.out.trans (b36.mono HB3.out.size)))
    have hbv : U64s (xs ++ ys) := fun e he => (List.mem_append.1 he).elim (hxv e) (hyv e)
    have hov : U64s (ys ++ xs) := fun e he => (List.mem_append.1 he).elim (hyv e) (hxv e)
    have hper : (ys ++ xs).Perm (xs ++ ys) := List.perm_append_comm
    have hlbB : (xs ++ ys).length ≤ 60 := by rw [List.length_append]; omega
    have hlbO : (ys ++ xs).length ≤ 60 := by rw [List.length_append]; omega
    have up : ∀ {W : World} {v : Value} {zs : List Ev}, Lies evL W6 W6.heap.size v zs → Below W6.heap.size W6 W → Lies evL W W.heap.size v zs := fun h hb => (h.below hb).mono hb.size
    have k1 := fun (W : World) (hB : Below W6.heap.size W6 W) => scSum_any (xs ++ ys) (by omega) hbv n0 n1 hn0 W A3 c3 (up lb hB)
    have k2 := fun (W : World) (hB : Below W6.heap.size W6 W) => scSum_any (ys ++ xs) (by omega) hov n0 n1 hn0 W A5 c5 (up lo hB)
    have k3 := fun (W : World) (hB : Below W6.heap.size W6 W) => scSum_any xs (by omega) hxv n0 n1 hn0 W a0 cap0 (by rw [hxl]; exact up lX hB)
    have k4 := fun (W : World) (hB : Below W6.heap.size W6 W) => scSum_any ys (by omega) hyv n0 n1 hn0 W a1 cap1 (by rw [hyl]; exact up lY hB)
    have k5 := fun (W : World) (hB : Below W6.heap.size W6 W) => scKeys_any (xs ++ ys) (by omega) hbv 0 n0 W A3 c3 (up lb hB)
    have k6 := fun (W : World) (hB : Below W6.heap.size W6 W) => scKeys_any (ys ++ xs) (by omega) hov 0 n0 W A5 c5 (up lo hB)
    have k8 := fun (W : World) => rColumn_any sA sB n0 hsA hsB hn0 7 (by omega) (by omega) W
    have cin := col_in sA sB n0 7 (by omega)
    obtain ⟨cv, hcv⟩ : ∃ cv, col sA sB n0 7 = cv := ⟨_, rfl⟩
    rw [hcv] at cin
    simp only [hcv] at k8
    have k9 := fun (W : World) (hB : Below W6.heap.size W6 W) => scIn_any (xs ++ ys) (by omega) hbv n0 n1 hn0 sA sB hsA hsB 7 cv (by omega) (by omega) (by omega) (by omega) W A3 c3 (up lb hB)
    have k10 := fun (W : World) (hB : Below W6.heap.size W6 W) => scIn_any (ys ++ xs) (by omega) hov n0 n1 hn0 sA sB hsA hsB 7 cv (by omega) (by omega) (by omega) (by omega) W A5 c5 (up lo hB)
    simp only [sumP_perm _ hper] at k2 k10
    simp only [keys_perm _ hper fun e he => (hov e he).2.2] at k6
    have hsum := u64_add (sumP (inB n0 n1) xs % M64) (sumP (inB n0 n1) ys % M64)
    rw [← Nat.add_mod, ← sumP_app] at hsum
    obtain ⟨Sb, hSb⟩ : ∃ S, sumP (inB n0 n1) (xs ++ ys) % M64 = S := ⟨_, rfl⟩
    obtain ⟨Sx, hSx⟩ : ∃ S, sumP (inB n0 n1) xs % M64 = S := ⟨_, rfl⟩
    obtain ⟨Sy, hSy⟩ : ∃ S, sumP (inB n0 n1) ys % M64 = S := ⟨_, rfl⟩
    obtain ⟨Sc, hSc⟩ : ∃ S, sumP (fun e => inB n0 n1 e && decide (col sA sB e.2.1 7 = cv)) (xs ++ ys) % M64 = S := ⟨_, rfl⟩
    have hlm := keys_len (ofT 0 n0) (xs ++ ys) (xs ++ ys).length (Nat.le_refl _)
    rw [List.take_length] at hlm
    obtain ⟨m, hm⟩ : ∃ m, keysI (ofT 0 n0) (xs ++ ys) = m := ⟨_, rfl⟩
    rw [hm] at hlm
    rw [hSb, hSx, hSy] at hsum
    simp only [hSb] at k1 k2
    simp only [hSx, hxl] at k3
    simp only [hSy, hyl] at k4
    simp only [hm] at k5 k6
    simp only [hSc] at k9 k10
    have k7 := fun (W : World) A1 A2 c1 c2 h1 h2 => rItems_any m (by omega) W A1 A2 c1 c2 h1 h2
    obtain ⟨M, hM⟩ : ∃ M, m.length = M := ⟨_, rfl⟩
    simp only [hM] at k5 k6 k7
    obtain ⟨NB, hNB⟩ : ∃ M, (xs ++ ys).length = M := ⟨_, rfl⟩
    obtain ⟨NO, hNO⟩ : ∃ M, (ys ++ xs).length = M := ⟨_, rfl⟩
    rw [hNB, hNO]
    rw [hNB] at k1 k5 k9
    rw [hNO] at k2 k6 k10
    have K1 := Lib.hid k1
    have K2 := Lib.hid k2
    have K3 := Lib.hid k3
    have K4 := Lib.hid k4
    have K5 := Lib.hid k5
    have K6 := Lib.hid k6
    have K7 := Lib.hid k7
    have K8 := Lib.hid k8
    have K9 := Lib.hid k9
    have K10 := Lib.hid k10
    have R6 := Lib.hid (Below.refl W6.heap.size W6)
    have XX := Lib.hid (And.intro x0 (And.intro x1 (And.intro s0 (And.intro s1 (And.intro lx ls)))))
    clear k1 k2 k3 k4 k5 k6 k7 k8 k9 k10 hM hm hSb hSx hSy hSc hcv hxv hyv hbv hov hper hlm hlbB hlbO ho3 ho5 lb lo lX lY HO3 HO5 hW6 p6 b6 b36 hsb hsA hsB hn0 hn1 hlb cin hNB hNO up
    clear HX0 HY0 HX1 HY1 HX3 HY3 O1 O3 HO2 HO4
    have HSUM := Lib.hid hsum
    clear hsum
    go_upto_region 8 with (go_at_call 19; (with_reducible refine (K1.out _ R6.out).mono ?_); rintro e w7 ⟨rfl, hb⟩; have R7 := Lib.hid hb; clear hb)
    have XX7 := Lib.hid (And.intro ((R7.out.cell (p := ⟨w.heap.size, 0, none⟩) lx).trans XX.out.1) (And.intro ((R7.out.cell (p := ⟨w.heap.size, 1, none⟩) lx).trans XX.out.2.1) (And.intro ((R7.out.cell (p := ⟨sb, 0, none⟩) ls).trans XX.out.2.2.1) ((R7.out.cell (p := ⟨sb, 1, none⟩) ls).trans XX.out.2.2.2.1))))
    have lx7 := Nat.lt_of_lt_of_le lx R7.out.size
    have ls7 := Nat.lt_of_lt_of_le ls R7.out.size
    clear x0 x1 s0 s1 lx ls XX
    refine region_tail (fr := ?frA) 64 [44, 45, 46, 47, 48, 49, 50, 51, 52, 53, 54, 55, 56, 57, 58, 59, 60, 61, 62, 63, 64, 65, 66, 67, 68, 69, 70, 71, 72, 73, 74, 75, 76, 77, 78, 79, 80, 81, 82, 83, 84, 85, 86, 87, 88, 89, 90, 91, 92, 93, 94, 95, 96, 97, 98, 99, 100, 101, 102, 103, 104, 105, 106, 107] (fun i v W => match i with
        | 0 => v = .bool true
        | 1 => v = .bool true
        | 2 => v = .int .u64 (Sb : Int)
        | 3 => v = .slice A5 NO c5
        | 4 => v = .pointer (some ⟨w.heap.size, 0, none⟩)
        | 5 => v = .int .u64 (n0 : Int)
        | 6 => v = .pointer (some ⟨w.heap.size, 1, none⟩)
        | 7 => v = .int .u64 (n1 : Int)
        | 8 => v = .int .u64 (Sb : Int)
        | 9 => v = .bool true
        | 10 => v = .bool true
        | 11 => v = .bool true
        | 12 => v = .int .u64 (Sb : Int)
        | 13 => v = .slice a0 len0 cap0
        | 14 => v = .pointer (some ⟨w.heap.size, 0, none⟩)
        | 15 => v = .int .u64 (n0 : Int)
        | 16 => v = .pointer (some ⟨w.heap.size, 1, none⟩)
        | 17 => v = .int .u64 (n1 : Int)
        | 18 => v = .int .u64 (Sx : Int)
        | 19 => v = .slice a1 len1 cap1
        | 20 => v = .pointer (some ⟨w.heap.size, 0, none⟩)
        | 21 => v = .int .u64 (n0 : Int)
        | 22 => v = .pointer (some ⟨w.heap.size, 1, none⟩)
        | 23 => v = .int .u64 (n1 : Int)
        | 24 => v = .int .u64 (Sy : Int)
        | 25 => v = .int .u64 (Sb : Int)
        | 26 => v = .bool true
        | 27 => v = .bool true
        | 28 => v = .bool true
        | 29 => v = .slice A3 NB c3
        | 30 => v = .pointer (some ⟨w.heap.size, 0, none⟩)
        | 31 => v = .int .u64 (n0 : Int)
        | 32 => ∃ A c, v = .slice A M c ∧ Lies spL W W.heap.size (.slice A M c) m
        | 33 => v = .slice A5 NO c5
        | 34 => v = .pointer (some ⟨w.heap.size, 0, none⟩)
        | 35 => v = .int .u64 (n0 : Int)
        | 36 => ∃ A c, v = .slice A M c ∧ Lies spL W W.heap.size (.slice A M c) m
        | 37 => v = .bool true
        | 38 => v = .bool true
        | 39 => v = .bool true
        | 40 => v = .slice A3 NB c3
        | 41 => v = .pointer (some ⟨w.heap.size, 0, none⟩)
        | 42 => v = .int .u64 (n0 : Int)
        | 43 => v = .pointer (some ⟨w.heap.size, 1, none⟩)
        | 44 => v = .int .u64 (n1 : Int)
        | 45 => v = .agg #[.int .u64 (sA : Int), .int .u64 (sB : Int)]
        | 46 => v = .agg #[.int .u64 (sA : Int), .int .u64 (sB : Int)]
        | 47 => v = .pointer (some ⟨w.heap.size, 0, none⟩)
        | 48 => v = .int .u64 (n0 : Int)
        | 49 => v = .int .i64 cv
        | 50 => v = .int .u64 (Sc : Int)
        | 51 => v = .slice A5 NO c5
        | 52 => v = .pointer (some ⟨w.heap.size, 0, none⟩)
        | 53 => v = .int .u64 (n0 : Int)
        | 54 => v = .pointer (some ⟨w.heap.size, 1, none⟩)
        | 55 => v = .int .u64 (n1 : Int)
        | 56 => v = .agg #[.int .u64 (sA : Int), .int .u64 (sB : Int)]
        | 57 => v = .agg #[.int .u64 (sA : Int), .int .u64 (sB : Int)]
        | 58 => v = .pointer (some ⟨w.heap.size, 0, none⟩)
        | 59 => v = .int .u64 (n0 : Int)
        | 60 => v = .int .i64 cv
        | 61 => v = .int .u64 (Sc : Int)
        | 62 => v = .bool true
        | 63 => v = .bool true
        | _ => True) rfl ?hBA (by kernel_rfl) (by kernel_rfl) ?hfrA ?hFA ?hopA ?htailA
    case hBA => kernel_rfl
    case hfrA =>
      intro us
      simp only [putL]
      go_simp
      rfl
    case hFA =>
      intro i v W W' hG h
      match i with
      | 0 => exact h
      | 1 => exact h
      | 2 => exact h
      | 3 => exact h
      | 4 => exact h
      | 5 => exact h
      | 6 => exact h
      | 7 => exact h
      | 8 => exact h
      | 9 => exact h
      | 10 => exact h
      | 11 => exact h
      | 12 => exact h
      | 13 => exact h
      | 14 => exact h
      | 15 => exact h
      | 16 => exact h
      | 17 => exact h
      | 18 => exact h
      | 19 => exact h
      | 20 => exact h
      | 21 => exact h
      | 22 => exact h
      | 23 => exact h
      | 24 => exact h
      | 25 => exact h
      | 26 => exact h
      | 27 => exact h
      | 28 => exact h
      | 29 => exact h
      | 30 => exact h
      | 31 => exact h
      | 32 => exact (let ⟨A, c, e, hl⟩ := h; ⟨A, c, e, (hl.below hG).mono hG.size⟩)
      | 33 => exact h
      | 34 => exact h
      | 35 => exact h
      | 36 => exact (let ⟨A, c, e, hl⟩ := h; ⟨A, c, e, (hl.below hG).mono hG.size⟩)
      | 37 => exact h
      | 38 => exact h
      | 39 => exact h
      | 40 => exact h
      | 41 => exact h
      | 42 => exact h
      | 43 => exact h
      | 44 => exact h
      | 45 => exact h
      | 46 => exact h
      | 47 => exact h
      | 48 => exact h
      | 49 => exact h
      | 50 => exact h
      | 51 => exact h
      | 52 => exact h
      | 53 => exact h
      | 54 => exact h
      | 55 => exact h
      | 56 => exact h
      | 57 => exact h
      | 58 => exact h
      | 59 => exact h
      | 60 => exact h
      | 61 => exact h
      | 62 => exact h
      | 63 => exact h
      | n + 64 => trivial
    case hopA =>
      intro i hi us W2 hG hd
      match i, hi with
      | 0, _ =>
        clear hd
        exact hop_value rfl rfl rfl (v := .bool true) (W' := W2) (by go_simp) (Grows.refl _) rfl
      | 1, _ =>
        have h0 : (us 0) = .bool true := hd 0 (by omega) (by kernel_rfl)
        clear hd
        exact hop_value rfl rfl rfl (v := .bool true) (W' := W2) (by go_simp) (Grows.refl _) rfl
      | 2, _ =>
        have h1 : (us 1) = .bool true := hd 1 (by omega) (by kernel_rfl)
        clear hd
        rw [h1]
        exact hop_value rfl rfl rfl (v := .int .u64 (Sb : Int)) (W' := W2) (by go_simp) (Grows.refl _) rfl
      | 3, _ =>
        have h1 : (us 1) = .bool true := hd 1 (by omega) (by kernel_rfl)
        clear hd
        rw [h1]
        exact hop_value rfl rfl rfl (v := .slice A5 NO c5) (W' := W2) (by go_simp) (Grows.refl _) rfl
      | 4, _ =>
        have h1 : (us 1) = .bool true := hd 1 (by omega) (by kernel_rfl)
        clear hd
        rw [h1]
        exact hop_value rfl rfl rfl (v := .pointer (some ⟨w.heap.size, 0, none⟩)) (W' := W2) (by go_simp) (Grows.refl _) rfl
      | 5, _ =>
        have h4 : (us 4) = .pointer (some ⟨w.heap.size, 0, none⟩) := hd 4 (by omega) (by kernel_rfl)
        have h1 : (us 1) = .bool true := hd 1 (by omega) (by kernel_rfl)
        clear hd
        rw [h1]
        have c0 := (hG.cell (b := w.heap.size) (o := 0) lx7).trans XX7.out.1
        exact hop_value rfl rfl rfl (v := .int .u64 (n0 : Int)) (W' := W2) (by go_simp) (Grows.refl _) rfl
      | 6, _ =>
        have h1 : (us 1) = .bool true := hd 1 (by omega) (by kernel_rfl)
        clear hd
        rw [h1]
        exact hop_value rfl rfl rfl (v := .pointer (some ⟨w.heap.size, 1, none⟩)) (W' := W2) (by go_simp) (Grows.refl _) rfl
      | 7, _ =>
        have h6 : (us 6) = .pointer (some ⟨w.heap.size, 1, none⟩) := hd 6 (by omega) (by kernel_rfl)
        have h1 : (us 1) = .bool true := hd 1 (by omega) (by kernel_rfl)
        clear hd
        rw [h1]
        have c0 := (hG.cell (b := w.heap.size) (o := 1) lx7).trans XX7.out.2.1
        exact hop_value rfl rfl rfl (v := .int .u64 (n1 : Int)) (W' := W2) (by go_simp) (Grows.refl _) rfl
      | 8, _ =>
        have h3 : (us 3) = .slice A5 NO c5 := hd 3 (by omega) (by kernel_rfl)
        have h5 : (us 5) = .int .u64 (n0 : Int) := hd 5 (by omega) (by kernel_rfl)
        have h7 : (us 7) = .int .u64 (n1 : Int) := hd 7 (by omega) (by kernel_rfl)
        have h1 : (us 1) = .bool true := hd 1 (by omega) (by kernel_rfl)
        clear hd
        rw [h1]
        refine hop_call rfl rfl rfl (f := 19) (args := #[.slice A5 NO c5, .int .u64 (n0 : Int), .int .u64 (n1 : Int)]) (by go_simp) ?_
        exact (K2.out W2 (R7.out.trans (hG.mono R7.out.size))).mono fun _ _ ⟨h1, h2⟩ => ⟨_, h1, h2, rfl⟩
      | 9, _ =>
        have h2 : (us 2) = .int .u64 (Sb : Int) := hd 2 (by omega) (by kernel_rfl)
        have h8 : (us 8) = .int .u64 (Sb : Int) := hd 8 (by omega) (by kernel_rfl)
        have h1 : (us 1) = .bool true := hd 1 (by omega) (by kernel_rfl)
        clear hd
        rw [h1]
        exact hop_value rfl rfl rfl (v := .bool true) (W' := W2) (by go_simp) (Grows.refl _) rfl
      | 10, _ =>
        have h1 : (us 1) = .bool true := hd 1 (by omega) (by kernel_rfl)
        have h9 : (us 9) = .bool true := hd 9 (by omega) (by kernel_rfl)
        clear hd
        exact hop_value rfl rfl rfl (v := .bool true) (W' := W2) (by go_simp) (Grows.refl _) rfl
      | 11, _ =>
        have h10 : (us 10) = .bool true := hd 10 (by omega) (by kernel_rfl)
        clear hd
        exact hop_value rfl rfl rfl (v := .bool true) (W' := W2) (by go_simp) (Grows.refl _) rfl
      | 12, _ =>
        have h11 : (us 11) = .bool true := hd 11 (by omega) (by kernel_rfl)
        clear hd
        rw [h11]
        exact hop_value rfl rfl rfl (v := .int .u64 (Sb : Int)) (W' := W2) (by go_simp) (Grows.refl _) rfl
      | 13, _ =>
        have h11 : (us 11) = .bool true := hd 11 (by omega) (by kernel_rfl)
        clear hd
        rw [h11]
        exact hop_value rfl rfl rfl (v := .slice a0 len0 cap0) (W' := W2) (by go_simp) (Grows.refl _) rfl
      | 14, _ =>
        have h11 : (us 11) = .bool true := hd 11 (by omega) (by kernel_rfl)
        clear hd
        rw [h11]
        exact hop_value rfl rfl rfl (v := .pointer (some ⟨w.heap.size, 0, none⟩)) (W' := W2) (by go_simp) (Grows.refl _) rfl
      | 15, _ =>
        have h14 : (us 14) = .pointer (some ⟨w.heap.size, 0, none⟩) := hd 14 (by omega) (by kernel_rfl)
        have h11 : (us 11) = .bool true := hd 11 (by omega) (by kernel_rfl)
        clear hd
        rw [h11]
        have c0 := (hG.cell (b := w.heap.size) (o := 0) lx7).trans XX7.out.1
        exact hop_value rfl rfl rfl (v := .int .u64 (n0 : Int)) (W' := W2) (by go_simp) (Grows.refl _) rfl
      | 16, _ =>
        have h11 : (us 11) = .bool true := hd 11 (by omega) (by kernel_rfl)
        clear hd
        rw [h11]
        exact hop_value rfl rfl rfl (v := .pointer (some ⟨w.heap.size, 1, none⟩)) (W' := W2) (by go_simp) (Grows.refl _) rfl
      | 17, _ =>
        have h16 : (us 16) = .pointer (some ⟨w.heap.size, 1, none⟩) := hd 16 (by omega) (by kernel_rfl)
        have h11 : (us 11) = .bool true := hd 11 (by omega) (by kernel_rfl)
        clear hd
        rw [h11]
        have c0 := (hG.cell (b := w.heap.size) (o := 1) lx7).trans XX7.out.2.1
        exact hop_value rfl rfl rfl (v := .int .u64 (n1 : Int)) (W' := W2) (by go_simp) (Grows.refl _) rfl
      | 18, _ =>
        have h13 : (us 13) = .slice a0 len0 cap0 := hd 13 (by omega) (by kernel_rfl)
        have h15 : (us 15) = .int .u64 (n0 : Int) := hd 15 (by omega) (by kernel_rfl)
        have h17 : (us 17) = .int .u64 (n1 : Int) := hd 17 (by omega) (by kernel_rfl)
        have h11 : (us 11) = .bool true := hd 11 (by omega) (by kernel_rfl)
        clear hd
        rw [h11]
        refine hop_call rfl rfl rfl (f := 19) (args := #[.slice a0 len0 cap0, .int .u64 (n0 : Int), .int .u64 (n1 : Int)]) (by go_simp) ?_
        exact (K3.out W2 (R7.out.trans (hG.mono R7.out.size))).mono fun _ _ ⟨h1, h2⟩ => ⟨_, h1, h2, rfl⟩
      | 19, _ =>
        have h11 : (us 11) = .bool true := hd 11 (by omega) (by kernel_rfl)
        clear hd
        rw [h11]
        exact hop_value rfl rfl rfl (v := .slice a1 len1 cap1) (W' := W2) (by go_simp) (Grows.refl _) rfl
      | 20, _ =>
        have h11 : (us 11) = .bool true := hd 11 (by omega) (by kernel_rfl)
        clear hd
        rw [h11]
        exact hop_value rfl rfl rfl (v := .pointer (some ⟨w.heap.size, 0, none⟩)) (W' := W2) (by go_simp) (Grows.refl _) rfl
      | 21, _ =>
        have h20 : (us 20) = .pointer (some ⟨w.heap.size, 0, none⟩) := hd 20 (by omega) (by kernel_rfl)
        have h11 : (us 11) = .bool true := hd 11 (by omega) (by kernel_rfl)
        clear hd
        rw [h11]
        have c0 := (hG.cell (b := w.heap.size) (o := 0) lx7).trans XX7.out.1
        exact hop_value rfl rfl rfl (v := .int .u64 (n0 : Int)) (W' := W2) (by go_simp) (Grows.refl _) rfl
      | 22, _ =>
        have h11 : (us 11) = .bool true := hd 11 (by omega) (by kernel_rfl)
        clear hd
        rw [h11]
        exact hop_value rfl rfl rfl (v := .pointer (some ⟨w.heap.size, 1, none⟩)) (W' := W2) (by go_simp) (Grows.refl _) rfl
      | 23, _ =>
        have h22 : (us 22) = .pointer (some ⟨w.heap.size, 1, none⟩) := hd 22 (by omega) (by kernel_rfl)
        have h11 : (us 11) = .bool true := hd 11 (by omega) (by kernel_rfl)
        clear hd
        rw [h11]
        have c0 := (hG.cell (b := w.heap.size) (o := 1) lx7).trans XX7.out.2.1
        exact hop_value rfl rfl rfl (v := .int .u64 (n1 : Int)) (W' := W2) (by go_simp) (Grows.refl _) rfl
      | 24, _ =>
        have h19 : (us 19) = .slice a1 len1 cap1 := hd 19 (by omega) (by kernel_rfl)
        have h21 : (us 21) = .int .u64 (n0 : Int) := hd 21 (by omega) (by kernel_rfl)
        have h23 : (us 23) = .int .u64 (n1 : Int) := hd 23 (by omega) (by kernel_rfl)
        have h11 : (us 11) = .bool true := hd 11 (by omega) (by kernel_rfl)
        clear hd
        rw [h11]
        refine hop_call rfl rfl rfl (f := 19) (args := #[.slice a1 len1 cap1, .int .u64 (n0 : Int), .int .u64 (n1 : Int)]) (by go_simp) ?_
        exact (K4.out W2 (R7.out.trans (hG.mono R7.out.size))).mono fun _ _ ⟨h1, h2⟩ => ⟨_, h1, h2, rfl⟩
      | 25, _ =>
        have h18 : (us 18) = .int .u64 (Sx : Int) := hd 18 (by omega) (by kernel_rfl)
        have h24 : (us 24) = .int .u64 (Sy : Int) := hd 24 (by omega) (by kernel_rfl)
        have h11 : (us 11) = .bool true := hd 11 (by omega) (by kernel_rfl)
        clear hd
        rw [h11]
        have hsz := HSUM.out
        exact hop_value rfl rfl rfl (v := .int .u64 (Sb : Int)) (W' := W2) (by go_simp) (Grows.refl _) rfl
      | 26, _ =>
        have h12 : (us 12) = .int .u64 (Sb : Int) := hd 12 (by omega) (by kernel_rfl)
        have h25 : (us 25) = .int .u64 (Sb : Int) := hd 25 (by omega) (by kernel_rfl)
        have h11 : (us 11) = .bool true := hd 11 (by omega) (by kernel_rfl)
        clear hd
        rw [h11]
        exact hop_value rfl rfl rfl (v := .bool true) (W' := W2) (by go_simp) (Grows.refl _) rfl
      | 27, _ =>
        have h11 : (us 11) = .bool true := hd 11 (by omega) (by kernel_rfl)
        have h26 : (us 26) = .bool true := hd 26 (by omega) (by kernel_rfl)
        clear hd
        exact hop_value rfl rfl rfl (v := .bool true) (W' := W2) (by go_simp) (Grows.refl _) rfl
      | 28, _ =>
        have h27 : (us 27) = .bool true := hd 27 (by omega) (by kernel_rfl)
        clear hd
        exact hop_value rfl rfl rfl (v := .bool true) (W' := W2) (by go_simp) (Grows.refl _) rfl
      | 29, _ =>
        have h28 : (us 28) = .bool true := hd 28 (by omega) (by kernel_rfl)
        clear hd
        rw [h28]
        exact hop_value rfl rfl rfl (v := .slice A3 NB c3) (W' := W2) (by go_simp) (Grows.refl _) rfl
      | 30, _ =>
        have h28 : (us 28) = .bool true := hd 28 (by omega) (by kernel_rfl)
        clear hd
        rw [h28]
        exact hop_value rfl rfl rfl (v := .pointer (some ⟨w.heap.size, 0, none⟩)) (W' := W2) (by go_simp) (Grows.refl _) rfl
      | 31, _ =>
        have h30 : (us 30) = .pointer (some ⟨w.heap.size, 0, none⟩) := hd 30 (by omega) (by kernel_rfl)
        have h28 : (us 28) = .bool true := hd 28 (by omega) (by kernel_rfl)
        clear hd
        rw [h28]
        have c0 := (hG.cell (b := w.heap.size) (o := 0) lx7).trans XX7.out.1
        exact hop_value rfl rfl rfl (v := .int .u64 (n0 : Int)) (W' := W2) (by go_simp) (Grows.refl _) rfl
      | 32, _ =>
        have h29 : (us 29) = .slice A3 NB c3 := hd 29 (by omega) (by kernel_rfl)
        have h31 : (us 31) = .int .u64 (n0 : Int) := hd 31 (by omega) (by kernel_rfl)
        have h28 : (us 28) = .bool true := hd 28 (by omega) (by kernel_rfl)
        clear hd
        rw [h28]
        refine hop_call rfl rfl rfl (f := 24) (args := #[.slice A3 NB c3, .int .u64 0, .int .u64 (n0 : Int)]) (by go_simp) ?_
        exact (K5.out W2 (R7.out.trans (hG.mono R7.out.size))).mono fun _ _ ⟨A, c, h1, h2, h3⟩ => ⟨_, h1, h3, ⟨A, c, rfl, h2⟩⟩
      | 33, _ =>
        have h28 : (us 28) = .bool true := hd 28 (by omega) (by kernel_rfl)
        clear hd
        rw [h28]
        exact hop_value rfl rfl rfl (v := .slice A5 NO c5) (W' := W2) (by go_simp) (Grows.refl _) rfl
      | 34, _ =>
        have h28 : (us 28) = .bool true := hd 28 (by omega) (by kernel_rfl)
        clear hd
        rw [h28]
        exact hop_value rfl rfl rfl (v := .pointer (some ⟨w.heap.size, 0, none⟩)) (W' := W2) (by go_simp) (Grows.refl _) rfl
      | 35, _ =>
        have h34 : (us 34) = .pointer (some ⟨w.heap.size, 0, none⟩) := hd 34 (by omega) (by kernel_rfl)
        have h28 : (us 28) = .bool true := hd 28 (by omega) (by kernel_rfl)
        clear hd
        rw [h28]
        have c0 := (hG.cell (b := w.heap.size) (o := 0) lx7).trans XX7.out.1
        exact hop_value rfl rfl rfl (v := .int .u64 (n0 : Int)) (W' := W2) (by go_simp) (Grows.refl _) rfl
      | 36, _ =>
        have h33 : (us 33) = .slice A5 NO c5 := hd 33 (by omega) (by kernel_rfl)
        have h35 : (us 35) = .int .u64 (n0 : Int) := hd 35 (by omega) (by kernel_rfl)
        have h28 : (us 28) = .bool true := hd 28 (by omega) (by kernel_rfl)
        clear hd
        rw [h28]
        refine hop_call rfl rfl rfl (f := 24) (args := #[.slice A5 NO c5, .int .u64 0, .int .u64 (n0 : Int)]) (by go_simp) ?_
        exact (K6.out W2 (R7.out.trans (hG.mono R7.out.size))).mono fun _ _ ⟨A, c, h1, h2, h3⟩ => ⟨_, h1, h3, ⟨A, c, rfl, h2⟩⟩
      | 37, _ =>
        have h32 : ∃ A c, (us 32) = .slice A M c ∧ Lies spL W2 W2.heap.size (.slice A M c) m := hd 32 (by omega) (by kernel_rfl)
        have h36 : ∃ A c, (us 36) = .slice A M c ∧ Lies spL W2 W2.heap.size (.slice A M c) m := hd 36 (by omega) (by kernel_rfl)
        have h28 : (us 28) = .bool true := hd 28 (by omega) (by kernel_rfl)
        clear hd
        rw [h28]
        obtain ⟨A1, e1, q1, l1⟩ := h32
        obtain ⟨A2, e2, q2, l2⟩ := h36
        refine hop_call rfl rfl rfl (f := 23) (args := #[.slice A1 M e1, .slice A2 M e2]) (by go_simp) ?_
        exact (K7.out W2 _ _ _ _ l1 l2).mono fun _ _ ⟨h1, h2⟩ => ⟨_, h1, h2, rfl⟩
      | 38, _ =>
        have h28 : (us 28) = .bool true := hd 28 (by omega) (by kernel_rfl)
        have h37 : (us 37) = .bool true := hd 37 (by omega) (by kernel_rfl)
        clear hd
        exact hop_value rfl rfl rfl (v := .bool true) (W' := W2) (by go_simp) (Grows.refl _) rfl
      | 39, _ =>
        have h38 : (us 38) = .bool true := hd 38 (by omega) (by kernel_rfl)
        clear hd
        exact hop_value rfl rfl rfl (v := .bool true) (W' := W2) (by go_simp) (Grows.refl _) rfl
      | 40, _ =>
        have h39 : (us 39) = .bool true := hd 39 (by omega) (by kernel_rfl)
        clear hd
        rw [h39]
        exact hop_value rfl rfl rfl (v := .slice A3 NB c3) (W' := W2) (by go_simp) (Grows.refl _) rfl
      | 41, _ =>
        have h39 : (us 39) = .bool true := hd 39 (by omega) (by kernel_rfl)
        clear hd
        rw [h39]
        exact hop_value rfl rfl rfl (v := .pointer (some ⟨w.heap.size, 0, none⟩)) (W' := W2) (by go_simp) (Grows.refl _) rfl
      | 42, _ =>
        have h41 : (us 41) = .pointer (some ⟨w.heap.size, 0, none⟩) := hd 41 (by omega) (by kernel_rfl)
        have h39 : (us 39) = .bool true := hd 39 (by omega) (by kernel_rfl)
        clear hd
        rw [h39]
        have c0 := (hG.cell (b := w.heap.size) (o := 0) lx7).trans XX7.out.1
        exact hop_value rfl rfl rfl (v := .int .u64 (n0 : Int)) (W' := W2) (by go_simp) (Grows.refl _) rfl
      | 43, _ =>
        have h39 : (us 39) = .bool true := hd 39 (by omega) (by kernel_rfl)
        clear hd
        rw [h39]
        exact hop_value rfl rfl rfl (v := .pointer (some ⟨w.heap.size, 1, none⟩)) (W' := W2) (by go_simp) (Grows.refl _) rfl
      | 44, _ =>
        have h43 : (us 43) = .pointer (some ⟨w.heap.size, 1, none⟩) := hd 43 (by omega) (by kernel_rfl)
        have h39 : (us 39) = .bool true := hd 39 (by omega) (by kernel_rfl)
        clear hd
        rw [h39]
        have c0 := (hG.cell (b := w.heap.size) (o := 1) lx7).trans XX7.out.2.1
        exact hop_value rfl rfl rfl (v := .int .u64 (n1 : Int)) (W' := W2) (by go_simp) (Grows.refl _) rfl
      | 45, _ =>
        have h39 : (us 39) = .bool true := hd 39 (by omega) (by kernel_rfl)
        clear hd
        rw [h39]
        have c0 := (hG.cell (b := sb) (o := 0) ls7).trans XX7.out.2.2.1
        have c1 := (hG.cell (b := sb) (o := 1) ls7).trans XX7.out.2.2.2
        exact hop_value rfl rfl rfl (v := .agg #[.int .u64 (sA : Int), .int .u64 (sB : Int)]) (W' := W2) (by go_simp) (Grows.refl _) rfl
      | 46, _ =>
        have h39 : (us 39) = .bool true := hd 39 (by omega) (by kernel_rfl)
        clear hd
        rw [h39]
        have c0 := (hG.cell (b := sb) (o := 0) ls7).trans XX7.out.2.2.1
        have c1 := (hG.cell (b := sb) (o := 1) ls7).trans XX7.out.2.2.2
        exact hop_value rfl rfl rfl (v := .agg #[.int .u64 (sA : Int), .int .u64 (sB : Int)]) (W' := W2) (by go_simp) (Grows.refl _) rfl
      | 47, _ =>
        have h39 : (us 39) = .bool true := hd 39 (by omega) (by kernel_rfl)
        clear hd
        rw [h39]
        exact hop_value rfl rfl rfl (v := .pointer (some ⟨w.heap.size, 0, none⟩)) (W' := W2) (by go_simp) (Grows.refl _) rfl
      | 48, _ =>
        have h47 : (us 47) = .pointer (some ⟨w.heap.size, 0, none⟩) := hd 47 (by omega) (by kernel_rfl)
        have h39 : (us 39) = .bool true := hd 39 (by omega) (by kernel_rfl)
        clear hd
        rw [h39]
        have c0 := (hG.cell (b := w.heap.size) (o := 0) lx7).trans XX7.out.1
        exact hop_value rfl rfl rfl (v := .int .u64 (n0 : Int)) (W' := W2) (by go_simp) (Grows.refl _) rfl
      | 49, _ =>
        have h46 : (us 46) = .agg #[.int .u64 (sA : Int), .int .u64 (sB : Int)] := hd 46 (by omega) (by kernel_rfl)
        have h48 : (us 48) = .int .u64 (n0 : Int) := hd 48 (by omega) (by kernel_rfl)
        have h39 : (us 39) = .bool true := hd 39 (by omega) (by kernel_rfl)
        clear hd
        rw [h39]
        refine hop_call rfl rfl rfl (f := 26) (args := #[.agg #[.int .u64 (sA : Int), .int .u64 (sB : Int)], .int .u64 (n0 : Int), .int .i64 7]) (by go_simp) ?_
        exact (K8.out W2).mono fun _ _ ⟨h1, h2⟩ => ⟨_, h1, h2, rfl⟩
      | 50, _ =>
        have h40 : (us 40) = .slice A3 NB c3 := hd 40 (by omega) (by kernel_rfl)
        have h42 : (us 42) = .int .u64 (n0 : Int) := hd 42 (by omega) (by kernel_rfl)
        have h44 : (us 44) = .int .u64 (n1 : Int) := hd 44 (by omega) (by kernel_rfl)
        have h45 : (us 45) = .agg #[.int .u64 (sA : Int), .int .u64 (sB : Int)] := hd 45 (by omega) (by kernel_rfl)
        have h49 : (us 49) = .int .i64 cv := hd 49 (by omega) (by kernel_rfl)
        have h39 : (us 39) = .bool true := hd 39 (by omega) (by kernel_rfl)
        clear hd
        rw [h39]
        refine hop_call rfl rfl rfl (f := 21) (args := #[.slice A3 NB c3, .int .u64 (n0 : Int), .int .u64 (n1 : Int), .agg #[.int .u64 (sA : Int), .int .u64 (sB : Int)], .int .i64 7, .int .i64 cv]) (by go_simp) ?_
        exact (K9.out W2 (R7.out.trans (hG.mono R7.out.size))).mono fun _ _ ⟨h1, h2⟩ => ⟨_, h1, h2, rfl⟩
      | 51, _ =>
        have h39 : (us 39) = .bool true := hd 39 (by omega) (by kernel_rfl)
        clear hd
        rw [h39]
        exact hop_value rfl rfl rfl (v := .slice A5 NO c5) (W' := W2) (by go_simp) (Grows.refl _) rfl
      | 52, _ =>
        have h39 : (us 39) = .bool true := hd 39 (by omega) (by kernel_rfl)
        clear hd
        rw [h39]
        exact hop_value rfl rfl rfl (v := .pointer (some ⟨w.heap.size, 0, none⟩)) (W' := W2) (by go_simp) (Grows.refl _) rfl
      | 53, _ =>
        have h52 : (us 52) = .pointer (some ⟨w.heap.size, 0, none⟩) := hd 52 (by omega) (by kernel_rfl)
        have h39 : (us 39) = .bool true := hd 39 (by omega) (by kernel_rfl)
        clear hd
        rw [h39]
        have c0 := (hG.cell (b := w.heap.size) (o := 0) lx7).trans XX7.out.1
        exact hop_value rfl rfl rfl (v := .int .u64 (n0 : Int)) (W' := W2) (by go_simp) (Grows.refl _) rfl
      | 54, _ =>
        have h39 : (us 39) = .bool true := hd 39 (by omega) (by kernel_rfl)
        clear hd
        rw [h39]
        exact hop_value rfl rfl rfl (v := .pointer (some ⟨w.heap.size, 1, none⟩)) (W' := W2) (by go_simp) (Grows.refl _) rfl
      | 55, _ =>
        have h54 : (us 54) = .pointer (some ⟨w.heap.size, 1, none⟩) := hd 54 (by omega) (by kernel_rfl)
        have h39 : (us 39) = .bool true := hd 39 (by omega) (by kernel_rfl)
        clear hd
        rw [h39]
        have c0 := (hG.cell (b := w.heap.size) (o := 1) lx7).trans XX7.out.2.1
        exact hop_value rfl rfl rfl (v := .int .u64 (n1 : Int)) (W' := W2) (by go_simp) (Grows.refl _) rfl
      | 56, _ =>
        have h39 : (us 39) = .bool true := hd 39 (by omega) (by kernel_rfl)
        clear hd
        rw [h39]
        have c0 := (hG.cell (b := sb) (o := 0) ls7).trans XX7.out.2.2.1
        have c1 := (hG.cell (b := sb) (o := 1) ls7).trans XX7.out.2.2.2
        exact hop_value rfl rfl rfl (v := .agg #[.int .u64 (sA : Int), .int .u64 (sB : Int)]) (W' := W2) (by go_simp) (Grows.refl _) rfl
      | 57, _ =>
        have h39 : (us 39) = .bool true := hd 39 (by omega) (by kernel_rfl)
        clear hd
        rw [h39]
        have c0 := (hG.cell (b := sb) (o := 0) ls7).trans XX7.out.2.2.1
        have c1 := (hG.cell (b := sb) (o := 1) ls7).trans XX7.out.2.2.2
        exact hop_value rfl rfl rfl (v := .agg #[.int .u64 (sA : Int), .int .u64 (sB : Int)]) (W' := W2) (by go_simp) (Grows.refl _) rfl
      | 58, _ =>
        have h39 : (us 39) = .bool true := hd 39 (by omega) (by kernel_rfl)
        clear hd
        rw [h39]
        exact hop_value rfl rfl rfl (v := .pointer (some ⟨w.heap.size, 0, none⟩)) (W' := W2) (by go_simp) (Grows.refl _) rfl
      | 59, _ =>
        have h58 : (us 58) = .pointer (some ⟨w.heap.size, 0, none⟩) := hd 58 (by omega) (by kernel_rfl)
        have h39 : (us 39) = .bool true := hd 39 (by omega) (by kernel_rfl)
        clear hd
        rw [h39]
        have c0 := (hG.cell (b := w.heap.size) (o := 0) lx7).trans XX7.out.1
        exact hop_value rfl rfl rfl (v := .int .u64 (n0 : Int)) (W' := W2) (by go_simp) (Grows.refl _) rfl
      | 60, _ =>
        have h57 : (us 57) = .agg #[.int .u64 (sA : Int), .int .u64 (sB : Int)] := hd 57 (by omega) (by kernel_rfl)
        have h59 : (us 59) = .int .u64 (n0 : Int) := hd 59 (by omega) (by kernel_rfl)
        have h39 : (us 39) = .bool true := hd 39 (by omega) (by kernel_rfl)
        clear hd
        rw [h39]
        refine hop_call rfl rfl rfl (f := 26) (args := #[.agg #[.int .u64 (sA : Int), .int .u64 (sB : Int)], .int .u64 (n0 : Int), .int .i64 7]) (by go_simp) ?_
        exact (K8.out W2).mono fun _ _ ⟨h1, h2⟩ => ⟨_, h1, h2, rfl⟩
      | 61, _ =>
        have h51 : (us 51) = .slice A5 NO c5 := hd 51 (by omega) (by kernel_rfl)
        have h53 : (us 53) = .int .u64 (n0 : Int) := hd 53 (by omega) (by kernel_rfl)
        have h55 : (us 55) = .int .u64 (n1 : Int) := hd 55 (by omega) (by kernel_rfl)
        have h56 : (us 56) = .agg #[.int .u64 (sA : Int), .int .u64 (sB : Int)] := hd 56 (by omega) (by kernel_rfl)
        have h60 : (us 60) = .int .i64 cv := hd 60 (by omega) (by kernel_rfl)
        have h39 : (us 39) = .bool true := hd 39 (by omega) (by kernel_rfl)
        clear hd
        rw [h39]
        refine hop_call rfl rfl rfl (f := 21) (args := #[.slice A5 NO c5, .int .u64 (n0 : Int), .int .u64 (n1 : Int), .agg #[.int .u64 (sA : Int), .int .u64 (sB : Int)], .int .i64 7, .int .i64 cv]) (by go_simp) ?_
        exact (K10.out W2 (R7.out.trans (hG.mono R7.out.size))).mono fun _ _ ⟨h1, h2⟩ => ⟨_, h1, h2, rfl⟩
      | 62, _ =>
        have h50 : (us 50) = .int .u64 (Sc : Int) := hd 50 (by omega) (by kernel_rfl)
        have h61 : (us 61) = .int .u64 (Sc : Int) := hd 61 (by omega) (by kernel_rfl)
        have h39 : (us 39) = .bool true := hd 39 (by omega) (by kernel_rfl)
        clear hd
        rw [h39]
        exact hop_value rfl rfl rfl (v := .bool true) (W' := W2) (by go_simp) (Grows.refl _) rfl
      | 63, _ =>
        have h39 : (us 39) = .bool true := hd 39 (by omega) (by kernel_rfl)
        have h62 : (us 62) = .bool true := hd 62 (by omega) (by kernel_rfl)
        clear hd
        exact hop_value rfl rfl rfl (v := .bool true) (W' := W2) (by go_simp) (Grows.refl _) rfl
      | d + 64, h => exact absurd h (by omega)
    case htailA =>
      intro us W2 hG hf
      have h63 : (us 63) = .bool true := hf 63 (by omega)
      clear hf
      have HG := Lib.hid hG
      simp only [List.append_eq, List.cons_append, List.nil_append, List.drop_succ_cons, List.drop_zero]
      rw [h63]
      clear hG h63
      go_wp2
      go_ret
      exact ⟨rfl, HB6.out.trans ((R7.out.trans (HG.out.mono R7.out.size)).mono HB6.out.size)⟩
  · have hgt : (60 : Int) < (len0 : Int) + (len1 : Int) := by omega
    have hgd : decide ((60 : Int) < (len0 : Int) + (len1 : Int)) = true := by simpa using hgt
    go_enter Try.func8, Try.ntmps8
    go_upto_region 1 with (fail)
    rw [HW0.out]
    go_wp2_with (go_at_call 18; (with_reducible refine (sawake_any _).mono ?_); rintro e w1 ⟨rfl, hb⟩; have HB1 := Lib.hid (thn B0.out hb); clear hb)
    go_ret
    exact ⟨rfl, HB1.out⟩

set_option maxRecDepth 100000 in
theorem lifted (os : Os) (started : os.Started) (H : Type) (enc : TypeId × Value → H) :
    ReturnsInHanded {} Try.checked os 8 .any (Rows.scanTurnsSpec.pre6 enc Try.prog Try.f8 Rows.scanTurnsRow.domain false) (Rows.scanTurnsSpec.post enc Try.prog Try.f8 false true false false) := by
  refine returnsInHanded_of_change_sized (C := Try.checked) own started (by kernel_rfl) Try.func8
    (ChangeSpec.witness6 (enc := enc) (C := Try.checked) false ⟨#[], #[.slice none 0 0, .slice none 0 0, .agg #[.int .u64 0, .int .u64 0]], []⟩ 8 (by kernel_rfl) (by kernel_rfl) (by kernel_rfl) (by kernel_rfl)) ?_
  intro W base args ds gs before hval0 hW hcnd hsz0 _
  have hsz : (DataW.weightsEach Try.prog (Try.f8.params.toList ++ Rows.scanTurnsSpec.plain.varTypes Try.prog) (ds ++ gs)).all (· ≤ reachBytes) = true := hsz0
  have hval : ∀ (j : Nat) t v, Try.f8.params[j]? = some t → args[j]? = some v → Value.okWide Try.prog W .any base t v := hval0
  have hW' := hW
  obtain ⟨p, q, hA0, hV, rfl, hfz, hnd⟩ := hW
  have hA : DataW.TrodAll enc Try.prog W 0 (fun _ => true) true Try.f8.params.toList args.toList ds p := hA0
  rw [Try.params8] at hA hval hsz
  obtain ⟨v0, vs0, d0, ds0, p0, q0, hargs, rfl, rfl, h0, r0⟩ := trodAll_cons hA
  obtain ⟨v1, vs1, d1, ds1, p1, q1, rfl, rfl, rfl, h1, r1⟩ := trodAll_cons r0
  obtain ⟨v2, vs2, d2, ds2, p2, q2, rfl, rfl, rfl, h2, r2⟩ := trodAll_cons r1
  obtain ⟨rfl, rfl, rfl⟩ := trodAll_nil r2
  obtain rfl : args = #[v0, v1, v2] := by cases args; simp_all
  obtain ⟨rfl, rfl⟩ := trodVars_none hV
  obtain ⟨a0, len0, cap0, rfl⟩ := okWide_slice Try.underlying27 (hval 0 27 v0 rfl rfl)
  have k0 := h0
  have lt0 : ∀ x ∈ p0, x.block < W.heap.size := by obtain ⟨m, hm⟩ := k0; exact DataW.trod_lt m _ _ _ hm
  obtain ⟨z0, w0⟩ := Op.open_flats (f := 9) (ks := [.u64, .u64, .u64]) Try.underlying27 (by kernel_rfl) (by kernel_rfl) (by decide) h0
  have sl0 : len0 ≤ 140737488355328 := by
    rcases sized_open Try.underlying27 k0 with e | ⟨es, sp, e, hl⟩
    · omega
    · subst e
      have := sized_slice hsz (j := 0) (t := 27) (e := 41) rfl rfl Try.underlying27
      rw [show Try.prog.bytesOf 41 = 24 by kernel_rfl, hl] at this
      unfold reachBytes at this
      omega
  obtain ⟨a1, len1, cap1, rfl⟩ := okWide_slice Try.underlying27 (hval 1 27 v1 rfl rfl)
  have k1 := h1
  have lt1 : ∀ x ∈ p1, x.block < W.heap.size := by obtain ⟨m, hm⟩ := k1; exact DataW.trod_lt m _ _ _ hm
  obtain ⟨z1, w1⟩ := Op.open_flats (f := 9) (ks := [.u64, .u64, .u64]) Try.underlying27 (by kernel_rfl) (by kernel_rfl) (by decide) h1
  have sl1 : len1 ≤ 140737488355328 := by
    rcases sized_open Try.underlying27 k1 with e | ⟨es, sp, e, hl⟩
    · omega
    · subst e
      have := sized_slice hsz (j := 1) (t := 27) (e := 41) rfl rfl Try.underlying27
      rw [show Try.prog.bytesOf 41 = 24 by kernel_rfl, hl] at this
      unfold reachBytes at this
      omega
  have k2 := h2
  have lt2 : ∀ x ∈ p2, x.block < W.heap.size := by obtain ⟨m, hm⟩ := k2; exact DataW.trod_lt m _ _ _ hm
  obtain ⟨c2, rfl, fit2⟩ := Op.open_flat (f := 9) (ks := [.u64, .u64]) (by kernel_rfl) (by kernel_rfl) (hval 2 45 v2 rfl rfl) h2
  obtain ⟨a2_0, a2_1, rfl, w2_0, w2_1⟩ := fit2_of fit2
  clear hA0 hval0
  refine (walk a0 len0 cap0 z0 a1 len1 cap1 z1 a2_0 a2_1 W w0 sl0 w1 sl1 w2_0 w2_1).mono fun e W' ⟨he, bel⟩ => ?_
  subst he
  exact ⟨_, rfl, _, _, _, [], _, [], hW', trodAll_mk1 (shut_bool Try.underlying4 _), (trodAll_cons_mk (Below.trod laidOut (by kernel_rfl) (of_decide_eq_true (by kernel_rfl)) k0 bel lt0) (trodAll_cons_mk (Below.trod laidOut (by kernel_rfl) (of_decide_eq_true (by kernel_rfl)) k1 bel lt1) (trodAll_cons_mk (Below.trod laidOut (by kernel_rfl) (of_decide_eq_true (by kernel_rfl)) k2 bel lt2) trodAll_mk0))), rfl, bel.frame _, fun h => by cases h⟩

theorem over : Rows.scanTurnsRow.holds Try.pinned (OpenSpec.ofChange Rows.scanTurnsSpec) :=
  OpenClaim.holds_of_wide 8 Try.f8 rfl rfl rfl rfl rfl rfl rfl ⟨rfl, rfl, rfl, rfl, rfl⟩ rfl rfl rfl rfl rfl (by kernel_rfl) Try.func8 (by kernel_rfl)
    (of_decide_eq_true (by kernel_rfl)) (by unfold Func.isWrapper; first | (rw [if_pos (by decide +kernel)]; kernel_rfl) | (rw [if_neg (by decide +kernel)]; exact ⟨rfl, rfl⟩))
    (fun os started H enc _ => lifted os started H enc)

/-- The statement. -/
theorem proved : Rows.ScanTurnsSaid := over
#print axioms proved
end Go.Proofs.Ythncmjimfkbofaa.scanTurns
