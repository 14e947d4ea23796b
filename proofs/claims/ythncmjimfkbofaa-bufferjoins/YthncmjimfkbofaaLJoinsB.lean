/-
  'skylight/skylightlaw12.BufferJoins' returns true for every input, and the input reads afterwards as it read before. Conditions: none.
-/
import Derived.Test.YthncmjimfkbofaaRows
import Derived.WalkKit
import Derived.ProofKit
import Derived.OpenShut
import Derived.ShutString
import Derived.ChangeOld
import Derived.Below
import Derived.Test.YthncmjimfkbofaaJ02
import Derived.Test.YthncmjimfkbofaaJ20
namespace Go.Proofs.Ythncmjimfkbofaa.bufferJoins
open Go.Proofs Go.Proofs.Lm Go.Proofs.Lh Go.Proofs.Rn Go.Proofs.Op Go.Proofs.Rw Go.Proofs.Rf Go.Proofs.Bu Go.Proofs.So
open Go.ChangeShapes Go.WideShapes Go.ChangeAt Go.RowKit
open Go.ChangeMaps (open_string shut_string)
set_option linter.unusedVariables false

theorem own : ownKnob Try.prog.godebug = none := by kernel_rfl
theorem laidOut : laidOutB Try.prog = true := by kernel_rfl

/-- A slice of integers that came in: nil, or a row of cells of its capacity, each fitting its kind. -/
def IsRow (k : IntKind) (w : World) (a : Option Addr) (len cap : Nat) (zs : List Int) : Prop :=
  (a = none ∧ len = 0 ∧ cap = 0 ∧ zs = []) ∨
  ∃ x, a = some x ∧ len ≤ cap ∧ cap ≤ maxLen ∧ zs.length = cap ∧ (∀ i, i < zs.length → w.cell? (x.add i) = some (.int k (zs.getD i 0))) ∧ ∀ n ∈ zs, (Lit.int k n).wf = true

open Go.RowKit Go.Shelf Go.Proofs.Rw Go.Proofs.Lh Go.Proofs.Bu Go.Proofs.So
set_option linter.unusedVariables false
/-- What deeds make. -/
def mkL (late : Int) (l : List Ev) : Bf := (madeM (lateOf late) (roomOf2 20) (l.take 40)).1
/-- What holds at each round: both lists, the document's and the program's, and all weight. -/
def JoL (late : Int) (ls : List (List Ev)) (w : World) (i : Nat) (s6 s7 s8 : Value) (wr : World) : Prop :=
  ∃ xs : List Bs, xs.map (fun x => x.1) = (ls.take i).map (mkL late) ∧ wr.ownsRow w.heap.size 29 5 s6 xs.length (bfL.cells xs) ∧ wr.ownsRow w.heap.size 33 5 s7 xs.length (bfL.cells xs) ∧
    (∀ x ∈ xs, Evs wr x.2.1 x.2.2 x.1.evs) ∧ s8 = .int .u64 (wOf (evsOf xs) : Int) ∧ Below w.heap.size w wr
theorem evs_few {k : Nat} : ∀ {xs : List Bs}, (∀ x ∈ xs, x.1.evs.length ≤ k) → (evsOf xs).length ≤ k * xs.length
  | [], _ => Nat.zero_le _
  | x :: xs, h => by
    have h1 := h x List.mem_cons_self
    have h2 := evs_few (xs := xs) fun y hy => h y (List.mem_cons_of_mem _ hy)
    have e : evsOf (x :: xs) = x.1.evs ++ evsOf xs := by unfold evsOf; rw [List.flatMap_cons]
    rw [e, List.length_append, List.length_cons, Nat.mul_succ]
    omega
theorem evs_snoc (xs : List Bs) (x : Bs) : evsOf (xs ++ [x]) = evsOf xs ++ x.1.evs := by
  unfold evsOf
  rw [List.flatMap_append, List.flatMap_cons, List.flatMap_nil, List.append_nil]
theorem buf_same (a b c d : Int) (l : List Ev) : bufEqB a b c d a b c d l l = true := by simp [bufEqB]

set_option maxRecDepth 100000 in
set_option maxHeartbeats 4000000 in
theorem walk (a0 : Int) (a1 : Option Addr) (cap1 : Nat) (ls1 : List (List (Nat × Nat × Nat))) (w : World) (w0 : (Lit.int .u64 a0).wf = true) (w1 : Rw.ReadsG Rw.evL w w.heap.size (.slice a1 ls1.length cap1) ls1) (wb1 : ∀ l ∈ ls1, Rw.Fits3 l) :
    Calls Try.prog 3 #[.int .u64 a0, .slice a1 ls1.length cap1] w fun e w' => e = .returned (.bool true) ∧ Below w.heap.size w w' := by
  obtain ⟨b0, b1⟩ := bounds_u64 w0
  have km := fun (l : List Ev) (hl : l ∈ ls1) (W : World) (A : Option Addr) (nn c : Nat) (hnn : l.length = nn) (h : Lies evL W W.heap.size (.slice A nn c) l) => (bmade_any a0 20 b0 (by omega) (by decide) (by decide) l (wb1 l hl) W A nn c hnn h).mono
    (R' := fun e w' => ∃ A1 c1 A2 c2 n2, e = .returned (.tuple #[bufV (mkL a0 l) A1 c1, .slice A2 n2 c2]) ∧ Evs w' A1 c1 (mkL a0 l).evs ∧ Below W.heap.size W w') fun e w' ⟨A1, c1, A2, c2, h1, h2, _, h4⟩ => ⟨A1, c1, A2, c2, _, h1, h2, h4⟩
  have hmay := fun (l : List Ev) => made_may (late := lateOf a0) (room := roomOf2 20) (by have := lateOf_eq a0 b0; omega) (by have := roomOf2_le 20; omega) (by have := roomOf2_le 20; omega) (l.take 40)
  have hbd : ∀ l, (mkL a0 l).mark < 18446744073709551616 ∧ (mkL a0 l).front < 18446744073709551616 ∧ (mkL a0 l).evs.length ≤ 1024 := fun l => by
    have h := hmay l
    have h1 := h.turn
    have h2 := h.few
    have h3 := h.room
    unfold mkL
    omega
  obtain ⟨n, hn⟩ : ∃ n, ls1.length = n := ⟨_, rfl⟩
  rw [hn] at w1 ⊢
  have KM := Lib.hid km
  have HBD := Lib.hid hbd
  have HN := Lib.hid hn
  have HR := Lib.hid w1
  clear km hmay hbd hn w0 w1 wb1
  by_cases hle : n ≤ 4
  · go_enter Try.func3, Try.ntmps3
    go_upto_region 2 with (go_at_call 9; (with_reducible refine (bawake_any _).mono ?_); rintro e wa ⟨rfl, hb⟩; have HB1 := Lib.hid hb; clear hb)
    go_wp2
    go_loopw [6, 7, 8, 9] (fun s6 s7 s8 s9 wr => ∃ i : Nat, s9 = .int .i64 (i : Int) ∧ i ≤ n ∧ Hid (JoL a0 ls1 w i s6 s7 s8 wr)) (fun _ _ _ s9 _ => n - (intOf s9).toNat)
    case atStart => exact ⟨0, rfl, Nat.zero_le _, ⟨[], rfl, World.ownsRow_nil _ _ _ _, World.ownsRow_nil _ _ _ _, fun x hx => (by cases hx), rfl, HB1.out⟩⟩
    case round =>
      obtain ⟨i, rfl, hi, HJ⟩ := hrel
      obtain ⟨xs, hxs, h6, h7, hes, h8, hbel⟩ := HJ.out
      subst h8
      by_cases hlt : i < n
      · have hil : i < ls1.length := by rw [HN.out]; exact hlt
        have hrd := HR.out.below hbel
        obtain ⟨b, off, e, hb, -, hc⟩ := hrd.at (by omega)
        subst e
        obtain ⟨Ai, ci, q, -, -, hli⟩ := hc i hil
        have hmem := List.getElem_mem hil
        have htk : ls1.take (i + 1) = ls1.take i ++ [ls1[i]] := List.take_succ_eq_append_getElem hil
        obtain ⟨l, hl⟩ : ∃ l, ls1[i] = l := ⟨_, rfl⟩
        rw [hl] at q hli hmem htk
        obtain ⟨NL, hNL⟩ : ∃ N, l.length = N := ⟨_, rfl⟩
        rw [hNL] at q hli
        have hbb : b < wr.heap.size := Nat.lt_of_lt_of_le hb hbel.size
        have hcall := KM.out l hmem wr Ai NL ci hNL (hli.mono hbel.size)
        have hx3 := (HBD.out l).2.2
        obtain ⟨⟨xl, xr, xm, xf, xe⟩, hX⟩ : ∃ x, mkL a0 l = x := ⟨_, rfl⟩
        rw [hX] at hcall hx3
        unfold bufV bval at hcall
        dsimp only at hcall hx3
        have hxl : xs.length = i := by
          have := congrArg List.length hxs
          rw [List.length_map, List.length_map, List.length_take] at this
          omega
        have HC := Lib.hid hcall
        have HX3 := Lib.hid hx3
        have HXS := Lib.hid (show ∀ A c, (xs ++ [((⟨xl, xr, xm, xf, xe⟩ : Bf), A, c)] : List Bs).map (fun x => x.1) = (ls1.take (i + 1)).map (mkL a0) from fun A c => by
          rw [List.map_append, hxs, htk, List.map_append, List.map_cons, List.map_nil, List.map_cons, List.map_nil, hX])
        have H6 := Lib.hid h6
        have H7 := Lib.hid h7
        have HES := Lib.hid hes
        have BW := Lib.hid hbel
        have HXL := Lib.hid hxl
        clear hrd hc hli hmem htk hl hNL hcall hx3 hX hxl h6 h7 hes hbel hxs HJ
        go_upto_region 11 with (go_at_call 10; (with_reducible refine HC.out.mono ?_); rintro e wm ⟨A1, c1, A2, c2, n2, rfl, hv, hbm⟩; have HV := Lib.hid hv; have HBM := Lib.hid hbm; clear hv hbm)
        obtain ⟨W2, hW2⟩ : ∃ W, wm.alloc (.cells #[.int .u64 (xl : Int), .int .i64 (xr : Int), .int .u64 (xm : Int), .int .u64 (xf : Int), .slice A1 xe.length c1] 29) = W := ⟨_, rfl⟩
        rw [hW2]
        have p10 : W2.heap[wm.heap.size]? = some (.cells #[.int .u64 (xl : Int), .int .i64 (xr : Int), .int .u64 (xm : Int), .int .u64 (xf : Int), .slice A1 xe.length c1] 29) := by rw [← hW2]; exact heap_alloc_new wm _
        have bm2 : Below wm.heap.size wm W2 := by rw [← hW2]; exact (Below.refl _ wm).alloc (Nat.le_refl _) _
        have br2 := thn HBM.out bm2
        have hb10 : wr.heap.size ≤ wm.heap.size := HBM.out.size
        obtain ⟨b10, hb10e⟩ : ∃ b, wm.heap.size = b := ⟨_, rfl⟩
        rw [hb10e] at p10 hb10 ⊢
        have h62 := own_below H6.out br2
        have h72 := own_below H7.out br2
        have hne6 : some b10 ≠ u6.ownBlock := fun e => by have := (H6.out.lt b10 e.symm).2; omega
        have hne7 : some b10 ≠ u7.ownBlock := fun e => by have := (H7.out.lt b10 e.symm).2; omega
        have he2 := fun x hx => (HES.out x hx).grow br2
        have v2 := HV.out.grow bm2
        have bw2 := thn BW.out br2
        obtain ⟨⟨x0, x1, x2, x3, x4⟩, -⟩ := box5 p10
        have lx := lt_of p10
        have P10 := Lib.hid p10
        have H62 := Lib.hid h62
        have H72 := Lib.hid h72
        have NE6 := Lib.hid hne6
        have NE7 := Lib.hid hne7
        have E2 := Lib.hid he2
        have V2 := Lib.hid v2
        have B2 := Lib.hid bw2
        have hlen6 : xs.length + [((⟨xl, xr, xm, xf, xe⟩ : Bf), A1, c1)].length ≤ 10000000 := by rw [HXL.out]; simp; omega
        have HL6 := Lib.hid hlen6
        clear hW2 p10 bm2 br2 hb10 hb10e h62 h72 hne6 hne7 he2 v2 bw2 hlen6 q
        go_upto_region 12 with (at_builtin; refine wpList_app2 29 _ 56 info_buf12 Try.underlying25 rfl (by decide) (by decide) _ rfl _ _ rfl w.heap.size _ _ xs [((⟨xl, xr, xm, xf, xe⟩ : Bf), A1, c1)] _ rfl (World.ownsRow.alloc H62.out _) rfl (lit_bf _ _ _ rfl ((⟨xl, xr, xm, xf, xe⟩ : Bf), A1, c1)) (bf_one _) HL6.out (by have := B2.out.size; simp; omega) ?_; intro v6 w3 ho hg hat; have O6 := Lib.hid ho; have G3 := Lib.hid ((World.grownBy_alloc W2 _ u6.ownBlock).trans hg); clear ho hg hat)
        have h73 := World.ownsRow.kept H72.out G3.out (own_tyne H72.out H62.out (by decide))
        have he3 := fun x hx => (E2.out x hx).row G3.out (evs_tyne (E2.out x hx) H62.out (by decide))
        have v3 := V2.out.row G3.out (evs_tyne V2.out H62.out (by decide))
        have p103 := (G3.out.block b10 (lt_of P10.out) NE6.out).trans P10.out
        have bw3 := B2.out.grown G3.out B2.out.size (fun q hq => (H62.out.lt q hq).1)
        clear x0 x1 x2 x3 x4 lx
        obtain ⟨⟨x0, x1, x2, x3, x4⟩, -⟩ := box5 p103
        have lx := lt_of p103
        have H73 := Lib.hid h73
        have E3 := Lib.hid he3
        have V3 := Lib.hid v3
        have P103 := Lib.hid p103
        have B3 := Lib.hid bw3
        clear h73 he3 v3 p103 bw3
        have kmd := fun W => lmadeB_any (xl : Int) (xr : Int) (xm : Int) (xf : Int) (.slice A1 xe.length c1) (show ∃ A n c, Value.slice A1 xe.length c1 = .slice A n c from ⟨A1, xe.length, c1, rfl⟩) W
        unfold bval at kmd
        have KMD := Lib.hid kmd
        clear kmd
        go_upto_region 13 with (first
          | (go_at_call 11; (with_reducible refine (KMD.out _).mono ?_); rintro e w4 ⟨rfl, hb4⟩; have HB4 := Lib.hid hb4; have H74 := Lib.hid (own_below H73.out hb4); have B4 := Lib.hid (thn B3.out hb4); clear hb4)
          | (at_builtin; refine wpList_app2 33 _ 56 info_bufB Try.underlying26 rfl (by decide) (by decide) _ rfl _ _ rfl w.heap.size _ _ xs [((⟨xl, xr, xm, xf, xe⟩ : Bf), A1, c1)] _ rfl (World.ownsRow.alloc H74.out _) rfl (lit_bf _ _ _ rfl ((⟨xl, xr, xm, xf, xe⟩ : Bf), A1, c1)) (bf_one _) HL6.out (by have := B4.out.size; simp; omega) ?_; intro v7 w5 ho hg hat; have O7 := Lib.hid ho; have G5 := Lib.hid ((World.grownBy_alloc w4 _ u7.ownBlock).trans hg); clear ho hg hat))
        clear x0 x1 x2 x3 x4 lx
        have h64 := own_below O6.out HB4.out
        have h65 := World.ownsRow.kept h64 G5.out (own_tyne h64 H74.out (by decide))
        have he5 := fun x hx => ((E3.out x hx).grow HB4.out).row G5.out (evs_tyne ((E3.out x hx).grow HB4.out) H74.out (by decide))
        have v5 := (V3.out.grow HB4.out).row G5.out (evs_tyne (V3.out.grow HB4.out) H74.out (by decide))
        have p105 := (G5.out.block b10 (lt_of ((HB4.out.block _ (lt_of P103.out)).trans P103.out)) NE7.out).trans ((HB4.out.block _ (lt_of P103.out)).trans P103.out)
        have bw5 := B4.out.grown G5.out B4.out.size (fun q hq => (H74.out.lt q hq).1)
        obtain ⟨⟨x0, x1, x2, x3, x4⟩, -⟩ := box5 p105
        have lx := lt_of p105
        have kw := rweight_any (xl : Int) (xr : Int) (xm : Int) (xf : Int) xe (by have := HX3.out; omega) w5 A1 c1 v5.lies
        unfold bval at kw
        have KW := Lib.hid kw
        have H65 := Lib.hid h65
        have E5 := Lib.hid he5
        have V5 := Lib.hid v5
        have B5 := Lib.hid bw5
        clear h64 h65 he5 v5 p105 bw5 kw
        go_wp2_with (go_at_call 12; (with_reducible refine KW.out.mono ?_); rintro e w6 ⟨rfl, hb6⟩; have HB6 := Lib.hid hb6; clear hb6)
        have hJ : JoL a0 ls1 w (i + 1) v6 v7 (.int .u64 (IntKind.u64.wrap ((wOf (evsOf xs) : Int) + (wOf xe : Int)))) w6 := by
          refine ⟨xs ++ [((⟨xl, xr, xm, xf, xe⟩ : Bf), A1, c1)], HXS.out A1 c1, own_below H65.out HB6.out, own_below O7.out HB6.out, fun x hx => ?_, ?_, thn B5.out HB6.out⟩
          · rcases List.mem_append.1 hx with hx | hx
            · exact (E5.out x hx).grow HB6.out
            · rw [List.mem_singleton] at hx
              subst hx
              exact V5.out.grow HB6.out
          · rw [wOf_app, evs_snoc]
        go_roundw
        case rel => exact ⟨i + 1, by go_num, hlt, hJ⟩
        case measure => simp [intOf]; omega
      · have e : i = n := by omega
        subst e
        have htk : ls1.take ls1.length = ls1 := List.take_length
        rw [HN.out] at htk
        rw [htk] at hxs
        have hxl : xs.length = i := by
          have := congrArg List.length hxs
          rw [List.length_map, List.length_map] at this
          have h2 := HN.out
          omega
        have hbx : ∀ x ∈ xs, x.1.mark < 18446744073709551616 ∧ x.1.front < 18446744073709551616 ∧ x.1.evs.length ≤ 1024 := fun x hx => by
          have : x.1 ∈ xs.map (fun x => x.1) := List.mem_map.2 ⟨x, hx, rfl⟩
          rw [hxs] at this
          obtain ⟨l, -, hl⟩ := List.mem_map.1 this
          rw [← hl]
          exact HBD.out l
        have hfew : (evsOf xs).length ≤ 1024 * xs.length := evs_few fun x hx => (hbx x hx).2.2
        have hfew2 : (evsOf xs).length ≤ 100000 := by rw [hxl] at hfew; omega
        have hbi7 : BufsIn wr wr.heap.size u7 xs := ⟨Lies.of_own (L := bfL) h7, fun x hx => (hes x hx).lies⟩
        have hbi6 : BufsIn wr wr.heap.size u6 xs := ⟨Lies.of_own (L := bfL) h6, fun x hx => (hes x hx).lies⟩
        obtain ⟨A6, c6, e6, -, -⟩ := own_form h6
        obtain ⟨A7, c7, e7, -, -⟩ := own_form h7
        subst e6
        subst e7
        have k1 := bjoinA_any xs (by omega) (fun x hx => (hbx x hx).1) (fun x hx => (hbx x hx).2.1) hfew2 wr A7 xs.length c7 rfl hbi7
        have k2 := fun (W : World) (hW : Below wr.heap.size wr W) => rjoinA_any xs (by omega) hfew2 W A6 xs.length c6 rfl ((hbi6.below hW).mono hW.size)
        have hsum := joinR_sum xs
        have hjl := joinR_len xs
        obtain ⟨⟨⟨jl, jr, jm, jf, je⟩, jo⟩, hR⟩ : ∃ R, joinR xs = R := ⟨_, rfl⟩
        rw [hR] at k1 hsum hjl
        simp only [hR] at k2
        unfold bufV bval at k1 k2
        dsimp only at k1 k2 hsum hjl
        obtain ⟨NE, hNE⟩ : ∃ N, je.length = N := ⟨_, rfl⟩
        obtain ⟨NO, hNO⟩ : ∃ N, jo.length = N := ⟨_, rfl⟩
        obtain ⟨SW, hSW⟩ : ∃ N, wOf (evsOf xs) = N := ⟨_, rfl⟩
        rw [hNE, hNO] at k1 hjl
        simp only [hNE, hNO] at k2
        rw [hSW] at hsum ⊢
        obtain ⟨NXS, hNXS⟩ : ∃ N, xs.length = N := ⟨_, rfl⟩
        rw [hNXS] at k1 k2 ⊢
        have hNEb : NE ≤ 100000 := by omega
        have hNOb : NO ≤ 100000 := by omega
        have K1 := Lib.hid k1
        have K2 := Lib.hid k2
        have HSUM := Lib.hid hsum
        have HNE := Lib.hid hNE
        have HNO := Lib.hid hNO
        have BW := Lib.hid hbel
        clear k1 k2 hsum hjl hR hSW hNE hNO hxs htk hxl hbx hfew hfew2 hbi7 hbi6 h6 h7 hes hbel HJ hNXS
        go_upto_region 15 with (go_at_call 13; (with_reducible refine K1.out.mono ?_); rintro e y1 ⟨B1, d1, B2, d2, rfl, l1, l2, hb⟩; have L1 := Lib.hid l1; have L2 := Lib.hid l2; have HBJ := Lib.hid hb; clear l1 l2 hb)
        obtain ⟨V1, hV1⟩ : ∃ W, y1.alloc (.cells #[.int .u64 (jl : Int), .int .i64 (jr : Int), .int .u64 (jm : Int), .int .u64 (jf : Int), .slice B1 NE d1] 33) = W := ⟨_, rfl⟩
        rw [hV1]
        have p12 : V1.heap[y1.heap.size]? = some (.cells #[.int .u64 (jl : Int), .int .i64 (jr : Int), .int .u64 (jm : Int), .int .u64 (jf : Int), .slice B1 NE d1] 33) := by rw [← hV1]; exact heap_alloc_new y1 _
        have bV1 : Below y1.heap.size y1 V1 := by rw [← hV1]; exact (Below.refl _ y1).alloc (Nat.le_refl _) _
        have k2 := K2.out V1 (thn HBJ.out bV1)
        obtain ⟨b12, hb12⟩ : ∃ b, y1.heap.size = b := ⟨_, rfl⟩
        rw [hb12] at p12 ⊢
        have l1 := (L1.out.below bV1).mono bV1.size
        have l2 := (L2.out.below bV1).mono bV1.size
        have P12 := Lib.hid p12
        have M1 := Lib.hid l1
        have M2 := Lib.hid l2
        have K2V := Lib.hid k2
        have BV1 := Lib.hid (thn BW.out (thn HBJ.out bV1))
        clear hV1 p12 bV1 k2 hb12 l1 l2
        go_upto_region 16 with (go_at_call 14; (with_reducible refine K2V.out.mono ?_); rintro e y2 ⟨B3, d3, B4, d4, rfl, l3, l4, hb⟩; have L3 := Lib.hid l3; have L4 := Lib.hid l4; have HBR := Lib.hid hb; clear l3 l4 hb)
        obtain ⟨V2, hV2⟩ : ∃ W, y2.alloc (.cells #[.int .u64 (jl : Int), .int .i64 (jr : Int), .int .u64 (jm : Int), .int .u64 (jf : Int), .slice B3 NE d3] 29) = W := ⟨_, rfl⟩
        rw [hV2]
        have p14 : V2.heap[y2.heap.size]? = some (.cells #[.int .u64 (jl : Int), .int .i64 (jr : Int), .int .u64 (jm : Int), .int .u64 (jf : Int), .slice B3 NE d3] 29) := by rw [← hV2]; exact heap_alloc_new y2 _
        have bV2 : Below y2.heap.size y2 V2 := by rw [← hV2]; exact (Below.refl _ y2).alloc (Nat.le_refl _) _
        obtain ⟨b14, hb14⟩ : ∃ b, y2.heap.size = b := ⟨_, rfl⟩
        have b12V := thn HBR.out bV2
        rw [hb14] at p14 ⊢
        have p12 := (b12V.block _ (lt_of P12.out)).trans P12.out
        have l1 := (M1.out.below b12V).mono b12V.size
        have l2 := (M2.out.below b12V).mono b12V.size
        have l3 := (L3.out.below bV2).mono bV2.size
        have l4 := (L4.out.below bV2).mono bV2.size
        have kw := bweight_any (jl : Int) (jr : Int) (jm : Int) (jf : Int) je (by rw [HNE.out]; omega) V2 B1 d1 (by rw [HNE.out]; exact l1)
        rw [HNE.out] at kw
        unfold bval at kw
        obtain ⟨⟨x0, x1, x2, x3, x4⟩, -⟩ := box5 p12
        have lx := lt_of p12
        have KW := Lib.hid kw
        have Q12 := Lib.hid p12
        have Q14 := Lib.hid p14
        have N1 := Lib.hid l1
        have N2 := Lib.hid l2
        have N3 := Lib.hid l3
        have N4 := Lib.hid l4
        have BV2 := Lib.hid (thn BV1.out b12V)
        clear kw hV2 p14 bV2 hb14 b12V p12 l1 l2 l3 l4
        go_upto_region 17 with (go_at_call 15; (with_reducible refine KW.out.mono ?_); rintro e y3 ⟨rfl, hb⟩; have HB3 := Lib.hid hb; clear hb)
        clear x0 x1 x2 x3 x4 lx
        go_wp2
        go_loopw [16, 17] (fun s16 s17 wz => ∃ j : Nat, s17 = .int .i64 (j : Int) ∧ j ≤ NO ∧ s16 = .int .u64 (wOf (je ++ jo.take j) : Int) ∧ Hid (Below y3.heap.size y3 wz)) (fun _ s17 _ => NO - (intOf s17).toNat)
        case atStart => exact ⟨0, rfl, Nat.zero_le _, by rw [List.take_zero, List.append_nil], Lib.hid (Below.refl _ _)⟩
        case round =>
          obtain ⟨j, rfl, hj, rfl, HBZ⟩ := hrel
          have hz := thn HB3.out HBZ.out
          by_cases hlj : j < NO
          · have hjl : j < jo.length := by rw [HNO.out]; exact hlj
            have hL : Lies evL wr V2.heap.size (.slice B2 jo.length d2) jo := by rw [HNO.out]; exact N2.out.below hz
            obtain ⟨b, off, rfl, hb, -, hc⟩ := ev_at hL (by omega)
            obtain ⟨-, -, q2⟩ := hc j hjl
            have hbb : b < wr.heap.size := Nat.lt_of_lt_of_le hb hz.size
            have hst := wOf_snoc (je ++ jo.take j) jo[j]
            rw [List.append_assoc, ← List.take_succ_eq_append_getElem hjl] at hst
            generalize jo[j] = x at *
            obtain ⟨SJ, hSJ⟩ : ∃ N, wOf (je ++ jo.take j) = N := ⟨_, rfl⟩
            rw [hSJ] at hst ⊢
            have HST := Lib.hid hst
            clear hc hst hSJ hL hz
            go_wp2
            refine ⟨⟨j + 1, by go_num, hlj, by rw [← HST.out], HBZ⟩, by simp [intOf]; omega⟩
          · have e : j = NO := by omega
            subst e
            have htj : jo.take jo.length = jo := List.take_length
            rw [HNO.out] at htj
            rw [htj, HSUM.out]
            have p12 := (hz.block _ (lt_of Q12.out)).trans Q12.out
            have p14 := (hz.block _ (lt_of Q14.out)).trans Q14.out
            obtain ⟨⟨x0, x1, x2, x3, x4⟩, -⟩ := box5 p12
            have lx := lt_of p12
            obtain ⟨⟨z0, z1, z2, z3, z4⟩, -⟩ := box5 p14
            have lz := lt_of p14
            have ks := lsameB_any (jl : Int) (jr : Int) (jm : Int) (jf : Int) (jl : Int) (jr : Int) (jm : Int) (jf : Int) je je (by rw [HNE.out]; omega) wr B1 B3 d1 d3 (by rw [HNE.out]; exact (N1.out.below hz).mono hz.size) (by rw [HNE.out]; exact (N3.out.below hz).mono hz.size)
            rw [buf_same, HNE.out] at ks
            unfold bval at ks
            have ke := fun (W : World) (hW : Below wr.heap.size wr W) => revs_any jo jo (by rw [HNO.out]; omega) W W.heap.size (Nat.le_refl _) B2 B4 d2 d4 (by rw [HNO.out]; exact (N2.out.below (thn hz hW)).mono (thn hz hW).size) (by rw [HNO.out]; exact (N4.out.below (thn hz hW)).mono (thn hz hW).size)
            simp only [HNO.out, decide_true] at ke
            have KS := Lib.hid ks
            have KE := Lib.hid ke
            have BZ := Lib.hid (thn BV2.out hz)
            clear ks ke p12 p14 htj hz
            go_wp2_with (first
              | (go_at_call 16; (with_reducible refine KS.out.mono ?_); rintro e y4 ⟨rfl, hb⟩; have HB4 := Lib.hid hb; clear hb)
              | (go_at_call 17; (with_reducible refine (KE.out _ HB4.out).mono ?_); rintro e y5 ⟨rfl, hb⟩; have HB5 := Lib.hid (thn HB4.out hb); clear hb))
            go_ret
            exact ⟨rfl, thn BZ.out HB5.out⟩
  · go_enter Try.func3, Try.ntmps3
    go_wp2_with (go_at_call 9; (with_reducible refine (bawake_any _).mono ?_); rintro e wa ⟨rfl, hb⟩; have HB1 := Lib.hid hb; clear hb)
    go_ret
    exact ⟨rfl, HB1.out⟩

set_option maxRecDepth 100000 in
theorem lifted (os : Os) (started : os.Started) (H : Type) (enc : TypeId × Value → H) :
    ReturnsInHanded {} Try.checked os 3 .any (Rows.bufferJoinsSpec.pre6 enc Try.prog Try.f3 Rows.bufferJoinsRow.domain false) (Rows.bufferJoinsSpec.post enc Try.prog Try.f3 false true false false) := by
  refine returnsInHanded_of_change (C := Try.checked) own started (by kernel_rfl) Try.func3
    (ChangeSpec.witness6 (enc := enc) (C := Try.checked) false ⟨#[], #[.int .u64 0, .slice none 0 0], []⟩ 8 (by kernel_rfl) (by kernel_rfl) (by kernel_rfl) (by kernel_rfl)) ?_
  intro W base args ds gs before hval0 hW hcnd _
  have hval : ∀ (j : Nat) t v, Try.f3.params[j]? = some t → args[j]? = some v → Value.okWide Try.prog W .any base t v := hval0
  have hW' := hW
  obtain ⟨p, q, hA0, hV, rfl, hfz, hnd⟩ := hW
  have hA : DataW.TrodAll enc Try.prog W 0 (fun _ => true) true Try.f3.params.toList args.toList ds p := hA0
  rw [Try.params3] at hA hval
  obtain ⟨v0, vs0, d0, ds0, p0, q0, hargs, rfl, rfl, h0, r0⟩ := trodAll_cons hA
  obtain ⟨v1, vs1, d1, ds1, p1, q1, rfl, rfl, rfl, h1, r1⟩ := trodAll_cons r0
  obtain ⟨rfl, rfl, rfl⟩ := trodAll_nil r1
  obtain rfl : args = #[v0, v1] := by cases args; simp_all
  obtain ⟨rfl, rfl⟩ := trodVars_none hV
  obtain ⟨a0, rfl, rfl, rfl, w0⟩ := open_int Try.underlying22 (hval 0 22 v0 rfl rfl) h0
  have k1 := h1
  have lt1 : ∀ x ∈ p1, x.block < W.heap.size := by obtain ⟨m, hm⟩ := k1; exact DataW.trod_lt m _ _ _ hm
  obtain ⟨a1, cap1, ls1, rfl, w1, wb1⟩ := Op.open_lists3 (f := 9) (e1 := 32) (e := 72) Try.underlying23 (by kernel_rfl) (by kernel_rfl) (by kernel_rfl) (by kernel_rfl) (hval 1 23 v1 rfl rfl) h1
  clear hA0 hval0
  refine (walk a0 a1 cap1 ls1 W w0 w1 wb1).mono fun e W' ⟨he, bel⟩ => ?_
  subst he
  exact ⟨_, rfl, _, _, _, [], _, [], hW', trodAll_mk1 (shut_bool Try.underlying4 _), (trodAll_cons_mk (shut_int Try.underlying22 w0) (trodAll_cons_mk (Below.trod laidOut (by kernel_rfl) (of_decide_eq_true (by kernel_rfl)) k1 bel lt1) trodAll_mk0)), rfl, bel.frame _, fun h => by cases h⟩

theorem over : Rows.bufferJoinsRow.holds Try.pinned (OpenSpec.ofChange Rows.bufferJoinsSpec) :=
  OpenClaim.holds_of_wide 3 Try.f3 rfl rfl rfl rfl rfl rfl rfl ⟨rfl, rfl, rfl, rfl, rfl⟩ rfl rfl rfl rfl rfl (by kernel_rfl) Try.func3 (by kernel_rfl)
    (of_decide_eq_true (by kernel_rfl)) (by unfold Func.isWrapper; first | (rw [if_pos (by decide +kernel)]; kernel_rfl) | (rw [if_neg (by decide +kernel)]; exact ⟨rfl, rfl⟩))
    (fun os started H enc _ => lifted os started H enc)

/-- The statement. -/
theorem proved : Rows.BufferJoinsSaid := over
#print axioms proved
end Go.Proofs.Ythncmjimfkbofaa.bufferJoins
