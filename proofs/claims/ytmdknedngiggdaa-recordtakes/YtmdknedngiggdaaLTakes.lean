/-
  'skylight/skylightlaw11.RecordTakes' returns true for every input, and the input reads afterwards as it read before. Conditions: none.
-/
import Derived.Test.YtmdknedngiggdaaRows
import Derived.WalkKit
import Derived.ProofKit
import Derived.OpenShut
import Derived.ShutString
import Derived.ChangeOld
import Derived.Below
import Derived.Test.YtmdknedngiggdaaJ01
import Derived.Test.YtmdknedngiggdaaJ30
namespace Go.Proofs.Ytmdknedngiggdaa.recordTakes
open Go.Proofs Go.Proofs.Vm Go.Proofs.Lm Go.Proofs.Lh Go.Proofs.Rn Go.Proofs.Op Go.Proofs.Rw Go.Proofs.Rf Go.Proofs.Rc Go.Proofs.Dg
open Go.ChangeShapes Go.WideShapes Go.ChangeAt Go.RowKit
open Go.ChangeMaps (open_string shut_string)
set_option linter.unusedVariables false

theorem own : ownKnob Try.prog.godebug = none := by kernel_rfl
theorem laidOut : laidOutB Try.prog = true := by kernel_rfl

/-- A slice of integers that came in: nil, or a row of cells of its capacity, each fitting its kind. -/
def IsRow (k : IntKind) (w : World) (a : Option Addr) (len cap : Nat) (zs : List Int) : Prop :=
  (a = none ∧ len = 0 ∧ cap = 0 ∧ zs = []) ∨
  ∃ x, a = some x ∧ len ≤ cap ∧ cap ≤ maxLen ∧ zs.length = cap ∧ (∀ i, i < zs.length → w.cell? (x.add i) = some (.int k (zs.getD i 0))) ∧ ∀ n ∈ zs, (Lit.int k n).wf = true

open Go.RowKit Go.Shelf Go.Proofs.Vm Go.Proofs.Rw Go.Proofs.Lh Go.Proofs.Rf
open Go.Proofs.Rc (putM takeM oneM)

set_option maxRecDepth 100000 in
set_option maxHeartbeats 4000000 in
theorem walk (a0 : Option Addr) (len0 cap0 : Nat) (z0 : List Int) (w : World) (w0 : IsRow .u8 w a0 len0 cap0 z0) :
    Calls Try.prog 4 #[.slice a0 len0 cap0] w fun e w' => e = .returned (.bool true) ∧ Below w.heap.size w w' := by
  obtain ⟨hh, hl, hbd⟩ := holds_of_row w0
  obtain ⟨bs, hbs⟩ : ∃ x, z0.take len0 = x := ⟨_, rfl⟩
  rw [hbs] at hh hl hbd
  clear hbs w0
  have HH := Lib.hid hh
  have HBD := Lib.hid hbd
  have HLN := Lib.hid hl
  clear hh hbd hl
  by_cases h4 : len0 ≤ 400
  case neg =>
    have h4i : decide ((400 : Int) < (len0 : Int)) = true := by rw [decide_eq_true_iff]; omega
    go_enter Try.func4, Try.ntmps4
    go_wp2_with (go_at_call 8; refine (awakeR_any _).mono ?_; rintro e wa ⟨rfl, ha⟩)
    go_ret
    exact ⟨rfl, ha⟩
  have h4i : (len0 : Int) ≤ 400 := by omega
  have hon := fun (W : World) (hW : Below w.heap.size w W) => oneR_any (v := .slice a0 len0 cap0) ((HH.out.below hW).mono hW.size) HBD.out (by have := HLN.out; omega)
  have ho11 := fun (W : World) (hW : Below w.heap.size w W) => one11_any (v := .slice a0 len0 cap0) ((HH.out.below hW).mono hW.size) HBD.out
  have hnw := fun (W : World) (hW : Below w.heap.size w W) => new_any (v := .slice a0 len0 cap0) ((HH.out.below hW).mono hW.size) (by have := HLN.out; omega)
  have htk := fun (W : World) (rb : Nat) (hr : Rd W rb bs 0) => takeR_any hr HBD.out
  have ht11 : ∀ (W : World) (hW : Below w.heap.size w W), Calls Try.prog 17 #[.agg #[.slice a0 len0 cap0, .int .i64 0]] W fun r w' => ∃ A' c' v, r = .returned (.tuple #[.agg #[.slice A' (takeM bs 0).1.length c', .int .i64 (takeM bs 0).2.1], v]) ∧ Holds w' W.heap.size (.slice A' (takeM bs 0).1.length c') (takeM bs 0).1 ∧ ToldH w' v (takeM bs 0).2.2 ∧ Below W.heap.size W w' := fun W hW => by
    have := take11_any (w := W) (A := a0) (cap := cap0) (bs := bs) (Nat.le_refl _) (by rw [HLN.out]; exact (HH.out.below hW).mono hW.size) HBD.out 0
    rwa [HLN.out] at this
  have hm1 := Rc.one_told bs
  have hm2 := Rc.take_told bs 0
  obtain ⟨⟨⟨k1, g1, l1⟩, e1⟩, hx1⟩ : ∃ q, oneM bs = q := ⟨_, rfl⟩
  obtain ⟨⟨r, f, k2, g2, l2⟩, hx2⟩ : ∃ q, takeM bs 0 = q := ⟨_, rfl⟩
  simp only [hx1] at hon ho11 hm1
  simp only [hx2] at htk ht11 hm2
  obtain ⟨n1, hn1⟩ : ∃ n, l1.length = n := ⟨_, rfl⟩
  obtain ⟨n2, hn2⟩ : ∃ n, l2.length = n := ⟨_, rfl⟩
  obtain ⟨nr, hnr⟩ : ∃ n, r.length = n := ⟨_, rfl⟩
  simp only [hnr] at ht11
  have ON := Lib.hid hon
  have O11 := Lib.hid ho11
  have NW := Lib.hid hnw
  have TK := Lib.hid htk
  have T11 := Lib.hid ht11
  have M1 := Lib.hid hm1
  have M2 := Lib.hid hm2
  have N1 := Lib.hid hn1
  have N2 := Lib.hid hn2
  have NR := Lib.hid hnr
  clear hon ho11 hnw htk ht11 hm1 hm2 hn1 hn2 hnr hx1 hx2 h4
  go_enter Try.func4, Try.ntmps4
  go_upto_region 4 with (go_at_call 8; refine (awakeR_any _).mono ?_; rintro e wa ⟨rfl, ha⟩)
  have Bwa := Lib.hid ha
  clear ha
  go_upto_region 5 with (go_at_call 13; refine (ON.out wa Bwa.out).mono ?_; rintro e wx ⟨u, rfl, ⟨A1, c1, rfl, hLx⟩, hbx⟩; dsimp only at hLx ⊢; rw [N1.out] at hLx ⊢)
  have pp := heap_alloc_new wx (.cells #[.int .i64 k1, .int .i64 g1, .slice A1 n1 c1] 30)
  have bb := thn hbx ((Below.refl wx.heap.size wx).alloc (Nat.le_refl _) (.cells #[.int .i64 k1, .int .i64 g1, .slice A1 n1 c1] 30))
  have ll := hLx.grow ((Below.refl wx.heap.size wx).alloc (Nat.le_refl _) (.cells #[.int .i64 k1, .int .i64 g1, .slice A1 n1 c1] 30))
  generalize wx.alloc (.cells #[.int .i64 k1, .int .i64 g1, .slice A1 n1 c1] 30) = Wb at *
  obtain ⟨pA, hpe⟩ : ∃ p, wx.heap.size = p := ⟨_, rfl⟩
  rw [hpe] at pp ⊢
  have PpA := Lib.hid pp
  have LpA := Lib.hid ll
  have BWb := Lib.hid (thn Bwa.out bb)
  clear pp bb ll hpe hbx hLx
  go_upto_region 6 with (go_at_call 14; refine (O11.out Wb BWb.out).mono ?_; rintro e wx ⟨u, rfl, ⟨A2, c2, rfl, hLx⟩, hbx⟩; dsimp only at hLx ⊢; rw [N1.out] at hLx ⊢)
  have pp := heap_alloc_new wx (.cells #[.int .i64 k1, .int .i64 g1, .slice A2 n1 c2] 27)
  have bb := thn hbx ((Below.refl wx.heap.size wx).alloc (Nat.le_refl _) (.cells #[.int .i64 k1, .int .i64 g1, .slice A2 n1 c2] 27))
  have ll := hLx.grow ((Below.refl wx.heap.size wx).alloc (Nat.le_refl _) (.cells #[.int .i64 k1, .int .i64 g1, .slice A2 n1 c2] 27))
  generalize wx.alloc (.cells #[.int .i64 k1, .int .i64 g1, .slice A2 n1 c2] 27) = Wc at *
  obtain ⟨pB, hpe⟩ : ∃ p, wx.heap.size = p := ⟨_, rfl⟩
  rw [hpe] at pp ⊢
  have PpB := Lib.hid pp
  have LpB := Lib.hid ll
  replace PpA := Lib.hid ((bb.block _ (lt_of PpA.out)).trans PpA.out)
  replace LpA := Lib.hid (LpA.out.grow bb)
  have BWc := Lib.hid (thn BWb.out bb)
  clear pp bb ll hpe hbx hLx
  have lA := lt_of PpA.out
  have lB := lt_of PpB.out
  go_upto_region 7 with (go_at_call 15; refine (NW.out Wc BWc.out).mono ?_; rintro e Wd ⟨rb, rfl, hrb, hrd, bb⟩)
  replace PpA := Lib.hid ((bb.block _ (lt_of PpA.out)).trans PpA.out)
  replace LpA := Lib.hid (LpA.out.grow bb)
  replace PpB := Lib.hid ((bb.block _ (lt_of PpB.out)).trans PpB.out)
  replace LpB := Lib.hid (LpB.out.grow bb)
  have RD := Lib.hid hrd
  have BWd := Lib.hid (thn BWc.out bb)
  have RB := Lib.hid (show Wc.heap.size ≤ rb from hrb)
  have ZB := Lib.hid (show w.heap.size ≤ rb from Nat.le_trans BWc.out.size hrb)
  have NA := Lib.hid (show pA ≠ rb by have := lA; omega)
  have NB := Lib.hid (show pB ≠ rb by have := lB; omega)
  clear hrd bb hrb lA lB
  go_upto_region 8 with (go_at_call 16; refine (TK.out Wd rb RD.out).mono ?_; rintro e wx ⟨u, rfl, ⟨A3, c3, rfl, hLx⟩, hrd, hgx⟩; dsimp only at hLx hrd ⊢; rw [N2.out] at hLx ⊢)
  replace PpA := Lib.hid ((hgx.block _ (lt_of PpA.out) (by have := NA.out; simp; omega)).trans PpA.out)
  replace LpA := Lib.hid (Levs.offR LpA.out RD.out hgx)
  replace PpB := Lib.hid ((hgx.block _ (lt_of PpB.out) (by have := NB.out; simp; omega)).trans PpB.out)
  replace LpB := Lib.hid (Levs.offR LpB.out RD.out hgx)
  have Bwx := Lib.hid (thnG BWd.out hgx ZB.out)
  have pp := heap_alloc_new wx (.cells #[.int .i64 k2, .int .i64 g2, .slice A3 n2 c3] 30)
  have bb := (Below.refl wx.heap.size wx).alloc (Nat.le_refl _) (.cells #[.int .i64 k2, .int .i64 g2, .slice A3 n2 c3] 30)
  have ll := hLx.grow bb
  generalize wx.alloc (.cells #[.int .i64 k2, .int .i64 g2, .slice A3 n2 c3] 30) = We at *
  obtain ⟨pC, hpe⟩ : ∃ p, wx.heap.size = p := ⟨_, rfl⟩
  have BWe := Lib.hid (thn Bwx.out bb)
  replace RD := Lib.hid (hrd.below bb hrd.lt)
  replace PpA := Lib.hid ((bb.block _ (lt_of PpA.out)).trans PpA.out)
  replace LpA := Lib.hid (LpA.out.grow bb)
  replace PpB := Lib.hid ((bb.block _ (lt_of PpB.out)).trans PpB.out)
  replace LpB := Lib.hid (LpB.out.grow bb)
  rw [hpe] at pp ⊢
  have PpC := Lib.hid pp
  have LpC := Lib.hid ll
  clear pp bb ll hpe hLx hrd hgx NA NB
  go_upto_region 9 with (go_at_call 17; refine (T11.out We BWe.out).mono ?_; rintro e wx ⟨A4, c4, u, rfl, -, ⟨A5, c5, rfl, hLx⟩, hbx⟩; dsimp only at hLx ⊢; rw [N2.out] at hLx ⊢)
  obtain ⟨W4, hW4, hz4, pD, pE, b2⟩ := heap_two wx (.cells #[.slice A4 nr c4, .int .i64 f] 42) (.cells #[.int .i64 k2, .int .i64 g2, .slice A5 n2 c5] 27)
  rw [← hW4]
  have bb := thn hbx b2
  have ll := hLx.grow b2
  obtain ⟨bD, hbD⟩ : ∃ p, wx.heap.size = p := ⟨_, rfl⟩
  obtain ⟨bE, hbE⟩ : ∃ p, wx.heap.size + 1 = p := ⟨_, rfl⟩
  have BW4 := Lib.hid (thn BWe.out bb)
  replace RD := Lib.hid (RD.out.below bb RD.out.lt)
  replace PpA := Lib.hid ((bb.block _ (lt_of PpA.out)).trans PpA.out)
  replace LpA := Lib.hid (LpA.out.grow bb)
  replace PpB := Lib.hid ((bb.block _ (lt_of PpB.out)).trans PpB.out)
  replace LpB := Lib.hid (LpB.out.grow bb)
  replace PpC := Lib.hid ((bb.block _ (lt_of PpC.out)).trans PpC.out)
  replace LpC := Lib.hid (LpC.out.grow bb)
  rw [hbE] at pE ⊢
  rw [hbD] at pD ⊢
  have LpE := Lib.hid ll
  have DD := Lib.hid (lt_of pD)
  have EE := Lib.hid (lt_of pE)
  obtain ⟨d0, d1, -, -⟩ := box2 pD
  have D0 := Lib.hid d0
  have D1 := Lib.hid d1
  obtain ⟨e0, e1', e2⟩ := box3 pE
  have Ex0 := Lib.hid e0
  have Ex1 := Lib.hid e1'
  have Ex2 := Lib.hid e2
  obtain ⟨x0, x1, x2⟩ := box3 PpA.out
  have AA := Lib.hid (lt_of PpA.out)
  have Ax0 := Lib.hid x0
  have Ax1 := Lib.hid x1
  have Ax2 := Lib.hid x2
  clear x0 x1 x2
  obtain ⟨x0, x1, x2⟩ := box3 PpB.out
  have BB := Lib.hid (lt_of PpB.out)
  have Bx0 := Lib.hid x0
  have Bx1 := Lib.hid x1
  have Bx2 := Lib.hid x2
  clear x0 x1 x2
  obtain ⟨x0, x1, x2⟩ := box3 PpC.out
  have CC := Lib.hid (lt_of PpC.out)
  have Cx0 := Lib.hid x0
  have Cx1 := Lib.hid x1
  have Cx2 := Lib.hid x2
  clear x0 x1 x2
  clear pD pE b2 bb ll hbD hbE hW4 hz4 hLx hbx d0 d1 e0 e1' e2
  have s1 : ∀ W : World, Grows W4 W → Calls Try.prog 18 #[.agg #[.int .i64 k1, .int .i64 g1, .slice A1 n1 c1], .agg #[.int .i64 k1, .int .i64 g1, .slice A2 n1 c2]] W fun e w' => e = .returned (.bool true) ∧ Below W.heap.size W w' := fun W hW => same_told (m := (k1, g1, l1)) M1.out W A1 A2 n1 c1 c2 N1.out (LpA.out.grow hW) (LpB.out.grow hW)
  have s2 : ∀ W : World, Grows W4 W → Calls Try.prog 18 #[.agg #[.int .i64 k2, .int .i64 g2, .slice A3 n2 c3], .agg #[.int .i64 k2, .int .i64 g2, .slice A5 n2 c5]] W fun e w' => e = .returned (.bool true) ∧ Below W.heap.size W w' := fun W hW => same_told (m := (k2, g2, l2)) M2.out W A3 A5 n2 c3 c5 N2.out (LpC.out.grow hW) (LpE.out.grow hW)
  have s3 : ∀ W : World, Grows W4 W → Calls Try.prog 19 #[.pointer (some ⟨rb, 0, none⟩)] W fun r w' => r = .returned (.int .i64 (nr : Int)) ∧ W = w' := fun W hW => by
    have := left_any (RD.out.below hW RD.out.lt)
    rwa [NR.out] at this
  have s4 : ∀ W : World, Grows W4 W → Calls Try.prog 20 #[.pointer (some ⟨rb, 0, none⟩)] W fun r' w' => r' = .returned (.int .i64 f) ∧ W = w' := fun W hW => err_any (RD.out.below hW RD.out.lt)
  have S1 := Lib.hid s1
  have S2 := Lib.hid s2
  have S3 := Lib.hid s3
  have S4 := Lib.hid s4
  clear s1 s2 s3 s4
  refine region_facts0 (fr := ?frB) 31 [37, 38, 39, 40, 41, 42, 43, 44, 45, 46, 47, 48, 49, 50, 51, 52, 53, 54, 55, 56, 57, 58, 59, 60, 61, 62, 63, 64, 65, 66, 67] (fun i v W => match i with
      | 0 => v = .bool true
      | 1 => v = .bool true
      | 2 => v = .agg #[.int .i64 k1, .int .i64 g1, .slice A1 n1 c1]
      | 3 => v = .agg #[.int .i64 k1, .int .i64 g1, .slice A2 n1 c2]
      | 4 => v = .bool true
      | 5 => v = .bool true
      | 6 => v = .bool true
      | 7 => v = .int .i64 e1
      | 8 => v = .int .i64 e1
      | 9 => v = .bool true
      | 10 => v = .bool true
      | 11 => v = .bool true
      | 12 => v = .agg #[.int .i64 k2, .int .i64 g2, .slice A3 n2 c3]
      | 13 => v = .agg #[.int .i64 k2, .int .i64 g2, .slice A5 n2 c5]
      | 14 => v = .bool true
      | 15 => v = .bool true
      | 16 => v = .bool true
      | 17 => v = .pointer (some ⟨rb, 0, none⟩)
      | 18 => v = .int .i64 (nr : Int)
      | 19 => v = .pointer (some ⟨bD, 0, none⟩)
      | 20 => v = .slice A4 nr c4
      | 21 => v = .int .i64 (nr : Int)
      | 22 => v = .bool true
      | 23 => v = .bool true
      | 24 => v = .bool true
      | 25 => v = .pointer (some ⟨rb, 0, none⟩)
      | 26 => v = .int .i64 f
      | 27 => v = .pointer (some ⟨bD, 1, none⟩)
      | 28 => v = .int .i64 f
      | 29 => v = .bool true
      | 30 => v = .bool true
      | _ => True) rfl ?hBB (by kernel_rfl) (by kernel_rfl) (by kernel_rfl) ?hfrB ?hFB ?hopB ?htailB
  case hBB => kernel_rfl
  case hfrB =>
    intro us
    simp only [putL]
    go_simp
    rfl
  case hFB =>
    intro i v W W' hG h
    match i with
    | 0 => exact h
    | 1 => exact h
    | 2 => exact h
    | 3 => exact h
    | 4 => exact h
    | 5 => exact h
    | 6 => exact h
    | 7 => exact h
    | 8 => exact h
    | 9 => exact h
    | 10 => exact h
    | 11 => exact h
    | 12 => exact h
    | 13 => exact h
    | 14 => exact h
    | 15 => exact h
    | 16 => exact h
    | 17 => exact h
    | 18 => exact h
    | 19 => exact h
    | 20 => exact h
    | 21 => exact h
    | 22 => exact h
    | 23 => exact h
    | 24 => exact h
    | 25 => exact h
    | 26 => exact h
    | 27 => exact h
    | 28 => exact h
    | 29 => exact h
    | 30 => exact h
    | n + 31 => trivial
  case hopB =>
    intro i hi us W2 hG hd
    match i, hi with
    | 0, _ =>
      clear hd
      exact hop_value rfl rfl rfl (v := .bool true) (W' := W2) (by go_simp) (Grows.refl _) rfl
    | 1, _ =>
      have h0 : us 0 = .bool true := hd 0 (by omega) (by kernel_rfl)
      clear hd
      exact hop_value rfl rfl rfl (v := .bool true) (W' := W2) (by go_simp) (Grows.refl _) rfl
    | 2, _ =>
      have h1 : us 1 = .bool true := hd 1 (by omega) (by kernel_rfl)
      clear hd
      rw [h1]
      have q0 := (hG.cell (b := pA) (o := 0) AA.out).trans Ax0.out
      have q0l := Nat.lt_of_lt_of_le AA.out hG.size
      have q1 := (hG.cell (b := pA) (o := 1) AA.out).trans Ax1.out
      have q1l := Nat.lt_of_lt_of_le AA.out hG.size
      have q2 := (hG.cell (b := pA) (o := 2) AA.out).trans Ax2.out
      have q2l := Nat.lt_of_lt_of_le AA.out hG.size
      exact hop_value rfl rfl rfl (v := .agg #[.int .i64 k1, .int .i64 g1, .slice A1 n1 c1]) (W' := W2) (by go_simp) (Grows.refl _) rfl
    | 3, _ =>
      have h1 : us 1 = .bool true := hd 1 (by omega) (by kernel_rfl)
      clear hd
      rw [h1]
      have q0 := (hG.cell (b := pB) (o := 0) BB.out).trans Bx0.out
      have q0l := Nat.lt_of_lt_of_le BB.out hG.size
      have q1 := (hG.cell (b := pB) (o := 1) BB.out).trans Bx1.out
      have q1l := Nat.lt_of_lt_of_le BB.out hG.size
      have q2 := (hG.cell (b := pB) (o := 2) BB.out).trans Bx2.out
      have q2l := Nat.lt_of_lt_of_le BB.out hG.size
      exact hop_value rfl rfl rfl (v := .agg #[.int .i64 k1, .int .i64 g1, .slice A2 n1 c2]) (W' := W2) (by go_simp) (Grows.refl _) rfl
    | 4, _ =>
      have h1 : us 1 = .bool true := hd 1 (by omega) (by kernel_rfl)
      have h2 : us 2 = .agg #[.int .i64 k1, .int .i64 g1, .slice A1 n1 c1] := hd 2 (by omega) (by kernel_rfl)
      have h3 : us 3 = .agg #[.int .i64 k1, .int .i64 g1, .slice A2 n1 c2] := hd 3 (by omega) (by kernel_rfl)
      clear hd
      rw [h1]
      refine hop_call rfl rfl rfl (f := 18) (args := #[.agg #[.int .i64 k1, .int .i64 g1, .slice A1 n1 c1], .agg #[.int .i64 k1, .int .i64 g1, .slice A2 n1 c2]]) (by go_simp) ?_
      refine (S1.out W2 hG).mono ?_
      rintro e W' ⟨rfl, hb⟩
      exact ⟨_, rfl, hb, rfl⟩
    | 5, _ =>
      have h1 : us 1 = .bool true := hd 1 (by omega) (by kernel_rfl)
      have h4 : us 4 = .bool true := hd 4 (by omega) (by kernel_rfl)
      clear hd
      exact hop_value rfl rfl rfl (v := .bool true) (W' := W2) (by go_simp) (Grows.refl _) rfl
    | 6, _ =>
      have h5 : us 5 = .bool true := hd 5 (by omega) (by kernel_rfl)
      clear hd
      exact hop_value rfl rfl rfl (v := .bool true) (W' := W2) (by go_simp) (Grows.refl _) rfl
    | 7, _ =>
      have h6 : us 6 = .bool true := hd 6 (by omega) (by kernel_rfl)
      clear hd
      rw [h6]
      exact hop_value rfl rfl rfl (v := .int .i64 e1) (W' := W2) (by go_simp) (Grows.refl _) rfl
    | 8, _ =>
      have h6 : us 6 = .bool true := hd 6 (by omega) (by kernel_rfl)
      clear hd
      rw [h6]
      exact hop_value rfl rfl rfl (v := .int .i64 e1) (W' := W2) (by go_simp) (Grows.refl _) rfl
    | 9, _ =>
      have h6 : us 6 = .bool true := hd 6 (by omega) (by kernel_rfl)
      have h7 : us 7 = .int .i64 e1 := hd 7 (by omega) (by kernel_rfl)
      have h8 : us 8 = .int .i64 e1 := hd 8 (by omega) (by kernel_rfl)
      clear hd
      rw [h6]
      exact hop_value rfl rfl rfl (v := .bool true) (W' := W2) (by go_simp) (Grows.refl _) rfl
    | 10, _ =>
      have h6 : us 6 = .bool true := hd 6 (by omega) (by kernel_rfl)
      have h9 : us 9 = .bool true := hd 9 (by omega) (by kernel_rfl)
      clear hd
      exact hop_value rfl rfl rfl (v := .bool true) (W' := W2) (by go_simp) (Grows.refl _) rfl
    | 11, _ =>
      have h10 : us 10 = .bool true := hd 10 (by omega) (by kernel_rfl)
      clear hd
      exact hop_value rfl rfl rfl (v := .bool true) (W' := W2) (by go_simp) (Grows.refl _) rfl
    | 12, _ =>
      have h11 : us 11 = .bool true := hd 11 (by omega) (by kernel_rfl)
      clear hd
      rw [h11]
      have q0 := (hG.cell (b := pC) (o := 0) CC.out).trans Cx0.out
      have q0l := Nat.lt_of_lt_of_le CC.out hG.size
      have q1 := (hG.cell (b := pC) (o := 1) CC.out).trans Cx1.out
      have q1l := Nat.lt_of_lt_of_le CC.out hG.size
      have q2 := (hG.cell (b := pC) (o := 2) CC.out).trans Cx2.out
      have q2l := Nat.lt_of_lt_of_le CC.out hG.size
      exact hop_value rfl rfl rfl (v := .agg #[.int .i64 k2, .int .i64 g2, .slice A3 n2 c3]) (W' := W2) (by go_simp) (Grows.refl _) rfl
    | 13, _ =>
      have h11 : us 11 = .bool true := hd 11 (by omega) (by kernel_rfl)
      clear hd
      rw [h11]
      have q0 := (hG.cell (b := bE) (o := 0) EE.out).trans Ex0.out
      have q0l := Nat.lt_of_lt_of_le EE.out hG.size
      have q1 := (hG.cell (b := bE) (o := 1) EE.out).trans Ex1.out
      have q1l := Nat.lt_of_lt_of_le EE.out hG.size
      have q2 := (hG.cell (b := bE) (o := 2) EE.out).trans Ex2.out
      have q2l := Nat.lt_of_lt_of_le EE.out hG.size
      exact hop_value rfl rfl rfl (v := .agg #[.int .i64 k2, .int .i64 g2, .slice A5 n2 c5]) (W' := W2) (by go_simp) (Grows.refl _) rfl
    | 14, _ =>
      have h11 : us 11 = .bool true := hd 11 (by omega) (by kernel_rfl)
      have h12 : us 12 = .agg #[.int .i64 k2, .int .i64 g2, .slice A3 n2 c3] := hd 12 (by omega) (by kernel_rfl)
      have h13 : us 13 = .agg #[.int .i64 k2, .int .i64 g2, .slice A5 n2 c5] := hd 13 (by omega) (by kernel_rfl)
      clear hd
      rw [h11]
      refine hop_call rfl rfl rfl (f := 18) (args := #[.agg #[.int .i64 k2, .int .i64 g2, .slice A3 n2 c3], .agg #[.int .i64 k2, .int .i64 g2, .slice A5 n2 c5]]) (by go_simp) ?_
      refine (S2.out W2 hG).mono ?_
      rintro e W' ⟨rfl, hb⟩
      exact ⟨_, rfl, hb, rfl⟩
    | 15, _ =>
      have h11 : us 11 = .bool true := hd 11 (by omega) (by kernel_rfl)
      have h14 : us 14 = .bool true := hd 14 (by omega) (by kernel_rfl)
      clear hd
      exact hop_value rfl rfl rfl (v := .bool true) (W' := W2) (by go_simp) (Grows.refl _) rfl
    | 16, _ =>
      have h15 : us 15 = .bool true := hd 15 (by omega) (by kernel_rfl)
      clear hd
      exact hop_value rfl rfl rfl (v := .bool true) (W' := W2) (by go_simp) (Grows.refl _) rfl
    | 17, _ =>
      have h16 : us 16 = .bool true := hd 16 (by omega) (by kernel_rfl)
      clear hd
      rw [h16]
      exact hop_value rfl rfl rfl (v := .pointer (some ⟨rb, 0, none⟩)) (W' := W2) (by go_simp) (Grows.refl _) rfl
    | 18, _ =>
      have h16 : us 16 = .bool true := hd 16 (by omega) (by kernel_rfl)
      have h17 : us 17 = .pointer (some ⟨rb, 0, none⟩) := hd 17 (by omega) (by kernel_rfl)
      clear hd
      rw [h16]
      refine hop_call rfl rfl rfl (f := 19) (args := #[.pointer (some ⟨rb, 0, none⟩)]) (by go_simp) ?_
      refine (S3.out W2 hG).mono ?_
      rintro e W' ⟨rfl, rfl⟩
      exact ⟨_, rfl, Grows.refl _, rfl⟩
    | 19, _ =>
      have h16 : us 16 = .bool true := hd 16 (by omega) (by kernel_rfl)
      clear hd
      rw [h16]
      exact hop_value rfl rfl rfl (v := .pointer (some ⟨bD, 0, none⟩)) (W' := W2) (by go_simp) (Grows.refl _) rfl
    | 20, _ =>
      have h16 : us 16 = .bool true := hd 16 (by omega) (by kernel_rfl)
      have h19 : us 19 = .pointer (some ⟨bD, 0, none⟩) := hd 19 (by omega) (by kernel_rfl)
      clear hd
      rw [h16]
      have q0 := (hG.cell (b := bD) (o := 0) DD.out).trans D0.out
      have q0l := Nat.lt_of_lt_of_le DD.out hG.size
      exact hop_value rfl rfl rfl (v := .slice A4 nr c4) (W' := W2) (by go_simp) (Grows.refl _) rfl
    | 21, _ =>
      have h16 : us 16 = .bool true := hd 16 (by omega) (by kernel_rfl)
      have h20 : us 20 = .slice A4 nr c4 := hd 20 (by omega) (by kernel_rfl)
      clear hd
      rw [h16]
      exact hop_value rfl rfl rfl (v := .int .i64 (nr : Int)) (W' := W2) (by go_simp) (Grows.refl _) rfl
    | 22, _ =>
      have h16 : us 16 = .bool true := hd 16 (by omega) (by kernel_rfl)
      have h18 : us 18 = .int .i64 (nr : Int) := hd 18 (by omega) (by kernel_rfl)
      have h21 : us 21 = .int .i64 (nr : Int) := hd 21 (by omega) (by kernel_rfl)
      clear hd
      rw [h16]
      exact hop_value rfl rfl rfl (v := .bool true) (W' := W2) (by go_simp) (Grows.refl _) rfl
    | 23, _ =>
      have h16 : us 16 = .bool true := hd 16 (by omega) (by kernel_rfl)
      have h22 : us 22 = .bool true := hd 22 (by omega) (by kernel_rfl)
      clear hd
      exact hop_value rfl rfl rfl (v := .bool true) (W' := W2) (by go_simp) (Grows.refl _) rfl
    | 24, _ =>
      have h23 : us 23 = .bool true := hd 23 (by omega) (by kernel_rfl)
      clear hd
      exact hop_value rfl rfl rfl (v := .bool true) (W' := W2) (by go_simp) (Grows.refl _) rfl
    | 25, _ =>
      have h24 : us 24 = .bool true := hd 24 (by omega) (by kernel_rfl)
      clear hd
      rw [h24]
      exact hop_value rfl rfl rfl (v := .pointer (some ⟨rb, 0, none⟩)) (W' := W2) (by go_simp) (Grows.refl _) rfl
    | 26, _ =>
      have h24 : us 24 = .bool true := hd 24 (by omega) (by kernel_rfl)
      have h25 : us 25 = .pointer (some ⟨rb, 0, none⟩) := hd 25 (by omega) (by kernel_rfl)
      clear hd
      rw [h24]
      refine hop_call rfl rfl rfl (f := 20) (args := #[.pointer (some ⟨rb, 0, none⟩)]) (by go_simp) ?_
      refine (S4.out W2 hG).mono ?_
      rintro e W' ⟨rfl, rfl⟩
      exact ⟨_, rfl, Grows.refl _, rfl⟩
    | 27, _ =>
      have h24 : us 24 = .bool true := hd 24 (by omega) (by kernel_rfl)
      clear hd
      rw [h24]
      exact hop_value rfl rfl rfl (v := .pointer (some ⟨bD, 1, none⟩)) (W' := W2) (by go_simp) (Grows.refl _) rfl
    | 28, _ =>
      have h24 : us 24 = .bool true := hd 24 (by omega) (by kernel_rfl)
      have h27 : us 27 = .pointer (some ⟨bD, 1, none⟩) := hd 27 (by omega) (by kernel_rfl)
      clear hd
      rw [h24]
      have q0 := (hG.cell (b := bD) (o := 1) DD.out).trans D1.out
      have q0l := Nat.lt_of_lt_of_le DD.out hG.size
      exact hop_value rfl rfl rfl (v := .int .i64 f) (W' := W2) (by go_simp) (Grows.refl _) rfl
    | 29, _ =>
      have h24 : us 24 = .bool true := hd 24 (by omega) (by kernel_rfl)
      have h26 : us 26 = .int .i64 f := hd 26 (by omega) (by kernel_rfl)
      have h28 : us 28 = .int .i64 f := hd 28 (by omega) (by kernel_rfl)
      clear hd
      rw [h24]
      exact hop_value rfl rfl rfl (v := .bool true) (W' := W2) (by go_simp) (Grows.refl _) rfl
    | 30, _ =>
      have h24 : us 24 = .bool true := hd 24 (by omega) (by kernel_rfl)
      have h29 : us 29 = .bool true := hd 29 (by omega) (by kernel_rfl)
      clear hd
      exact hop_value rfl rfl rfl (v := .bool true) (W' := W2) (by go_simp) (Grows.refl _) rfl
    | d + 31, h => exact absurd h (by omega)
  case htailB =>
    intro us W2 hG hf
    have hz : us 30 = .bool true := hf 30 (by omega)
    clear hf
    rw [hz]
    have HG2 := Lib.hid hG
    clear hz hG
    simp only [List.drop_succ_cons, List.drop_zero]
    repeat (go_big_quiet_step (fail))
    refine wpQuiet_nil ?_
    rintro w' ⟨nq, rfl⟩
    have HBX := Lib.hid (below_drewN HG2.out nq)
    clear HG2
    generalize W2.drewN nq = wy at *
    go_wp2
    go_ret
    exact ⟨rfl, thn BW4.out HBX.out⟩

set_option maxRecDepth 100000 in
theorem lifted (os : Os) (started : os.Started) (H : Type) (enc : TypeId × Value → H) :
    ReturnsInHanded {} Try.checked os 4 .any (Rows.recordTakesSpec.pre6 enc Try.prog Try.f4 Rows.recordTakesRow.domain false) (Rows.recordTakesSpec.post enc Try.prog Try.f4 false true false false) := by
  refine returnsInHanded_of_change (C := Try.checked) own started (by kernel_rfl) Try.func4
    (ChangeSpec.witness6 (enc := enc) (C := Try.checked) false ⟨#[], #[.slice none 0 0], []⟩ 8 (by kernel_rfl) (by kernel_rfl) (by kernel_rfl) (by kernel_rfl)) ?_
  intro W base args ds gs before hval0 hW hcnd _
  have hval : ∀ (j : Nat) t v, Try.f4.params[j]? = some t → args[j]? = some v → Value.okWide Try.prog W .any base t v := hval0
  have hW' := hW
  obtain ⟨p, q, hA0, hV, rfl, hfz, hnd⟩ := hW
  have hA : DataW.TrodAll enc Try.prog W 0 (fun _ => true) true Try.f4.params.toList args.toList ds p := hA0
  rw [Try.params4] at hA hval
  obtain ⟨v0, vs0, d0, ds0, p0, q0, hargs, rfl, rfl, h0, r0⟩ := trodAll_cons hA
  obtain ⟨rfl, rfl, rfl⟩ := trodAll_nil r0
  obtain rfl : args = #[v0] := by cases args; simp_all
  obtain ⟨rfl, rfl⟩ := trodVars_none hV
  obtain ⟨a0, len0, cap0, rfl⟩ := okWide_slice Try.underlying28 (hval 0 28 v0 rfl rfl)
  have k0 := h0
  have lt0 : ∀ x ∈ p0, x.block < W.heap.size := by obtain ⟨m, hm⟩ := k0; exact DataW.trod_lt m _ _ _ hm
  obtain ⟨z0, w0⟩ : ∃ zs, IsRow .u8 W a0 len0 cap0 zs := by
    obtain ⟨fuel, hf⟩ := h0
    rcases open_ints Try.underlying28 Try.underlying5 (by kernel_rfl) hf with ⟨hcs, _⟩ | ⟨x, l, c, zs, hcs, _, hl, hm, hz, _, hcell, hwz⟩
    · simp [Value.cells] at hcs
      obtain ⟨rfl, rfl, rfl⟩ := hcs
      exact ⟨[], .inl ⟨rfl, rfl, rfl, rfl⟩⟩
    · simp [Value.cells] at hcs
      obtain ⟨rfl, rfl, rfl⟩ := hcs
      exact ⟨zs, .inr ⟨_, rfl, hl, hm, by simpa using hz, hcell, hwz⟩⟩
  clear hA0 hval0
  refine (walk a0 len0 cap0 z0 W w0).mono fun e W' ⟨he, bel⟩ => ?_
  subst he
  exact ⟨_, rfl, _, _, _, [], _, [], hW', trodAll_mk1 (shut_bool Try.underlying4 _), (trodAll_cons_mk (Below.trod laidOut (by kernel_rfl) (of_decide_eq_true (by kernel_rfl)) k0 bel lt0) trodAll_mk0), rfl, bel.frame _, fun h => by cases h⟩

theorem over : Rows.recordTakesRow.holds Try.pinned (OpenSpec.ofChange Rows.recordTakesSpec) :=
  OpenClaim.holds_of_wide 4 Try.f4 rfl rfl rfl rfl rfl rfl rfl ⟨rfl, rfl, rfl, rfl, rfl⟩ rfl rfl rfl rfl rfl (by kernel_rfl) Try.func4 (by kernel_rfl)
    (of_decide_eq_true (by kernel_rfl)) (by unfold Func.isWrapper; first | (rw [if_pos (by decide +kernel)]; kernel_rfl) | (rw [if_neg (by decide +kernel)]; exact ⟨rfl, rfl⟩))
    (fun os started H enc _ => lifted os started H enc)

/-- The statement. -/
theorem proved : Rows.RecordTakesSaid := over
#print axioms proved
end Go.Proofs.Ytmdknedngiggdaa.recordTakes
