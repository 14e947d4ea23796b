/-
  'skylight/skylightlaw07.ExpiryLater' returns true for every input, and the input reads afterwards as it read before. Conditions: none.
-/
import Derived.Test.YtafcgfhkeceiaaaRows
import Derived.WalkKit
import Derived.ProofKit
import Derived.OpenShut
import Derived.ShutString
import Derived.ChangeOld
import Derived.Below
import Derived.Test.YtafcgfhkeceiaaaOpen
import Derived.Test.YtafcgfhkeceiaaaXAwk
namespace Go.Proofs.Ytafcgfhkeceiaaa.expiryLater
open Go.Proofs Go.Proofs.Rn Go.Proofs.Lm Go.Proofs.Op Go.Proofs.Rw Go.Proofs.Lh Go.Proofs.Rf
open Go.ChangeShapes Go.WideShapes Go.ChangeAt Go.RowKit
open Go.ChangeMaps (open_string shut_string)
set_option linter.unusedVariables false

theorem own : ownKnob Try.prog.godebug = none := by kernel_rfl
theorem laidOut : laidOutB Try.prog = true := by kernel_rfl

/-- A slice of integers that came in: nil, or a row of cells of its capacity, each fitting its kind. -/
def IsRow (k : IntKind) (w : World) (a : Option Addr) (len cap : Nat) (zs : List Int) : Prop :=
  (a = none ∧ len = 0 ∧ cap = 0 ∧ zs = []) ∨
  ∃ x, a = some x ∧ len ≤ cap ∧ cap ≤ maxLen ∧ zs.length = cap ∧ (∀ i, i < zs.length → w.cell? (x.add i) = some (.int k (zs.getD i 0))) ∧ ∀ n ∈ zs, (Lit.int k n).wf = true

theorem fit2_of {c : List Value} (h : Op.Fits [.u64, .u64, .u64, .u64] c) : ∃ x0 x1 x2 x3 : Int, c = [.int .u64 x0, .int .u64 x1, .int .u64 x2, .int .u64 x3] ∧ (Lit.int .u64 x0).wf = true ∧ (Lit.int .u64 x1).wf = true ∧ (Lit.int .u64 x2).wf = true ∧ (Lit.int .u64 x3).wf = true := by
  cases c with
  | nil => exact h.elim
  | cons y0 c =>
  have g0 := h.1
  replace h := h.2
  cases c with
  | nil => exact h.elim
  | cons y1 c =>
  have g1 := h.1
  replace h := h.2
  cases c with
  | nil => exact h.elim
  | cons y2 c =>
  have g2 := h.1
  replace h := h.2
  cases c with
  | nil => exact h.elim
  | cons y3 c =>
  have g3 := h.1
  replace h := h.2
  cases c with
  | cons y c => exact h.elim
  | nil =>
  obtain ⟨x0, e0, e0w⟩ := g0
  obtain ⟨x1, e1, e1w⟩ := g1
  obtain ⟨x2, e2, e2w⟩ := g2
  obtain ⟨x3, e3, e3w⟩ := g3
  exact ⟨x0, x1, x2, x3, by rw [e0, e1, e2, e3], e0w, e1w, e2w, e3w⟩

open Go.RowKit Go.Shelf Go.Proofs.Rw Go.Proofs.Lh Go.Proofs.Rf

set_option maxRecDepth 100000 in
set_option maxHeartbeats 4000000 in
theorem walk (a0 : Int) (a1 : Option Addr) (len1 cap1 : Nat) (z1 : Nat → Nat → Int) (a2_0 a2_1 a2_2 a2_3 : Int) (w : World) (w0 : (Lit.int .i64 a0).wf = true) (w1 : Op.FlatRow [.u64, .u64] w a1 len1 cap1 z1) (w2_0 : (Lit.int .u64 a2_0).wf = true) (w2_1 : (Lit.int .u64 a2_1).wf = true) (w2_2 : (Lit.int .u64 a2_2).wf = true) (w2_3 : (Lit.int .u64 a2_3).wf = true) :
    Calls Try.prog 7 #[.int .i64 a0, .slice a1 len1 cap1, .agg #[.int .u64 a2_0, .int .u64 a2_1, .int .u64 a2_2, .int .u64 a2_3]] w fun e w' => e = .returned (.bool true) ∧ Below w.heap.size w w' := by
  obtain ⟨ds, hdl1, hdL1, hdB1⟩ := sp_of_row w1
  have hD1 : Deeds w a1 len1 cap1 ds := ⟨hdl1, hdL1, hdB1⟩
  obtain ⟨b00, b01⟩ := bounds_i64 w0
  have hk1 := kOf_le a0
  have hdn1 : doneN ds ≤ ds.length := by unfold doneN; omega
  have hmd : Made (kOf a0) (play (kOf a0) ds (doneN ds)).2 := play_made hk1.1 (by omega) ds _ hdn1
  have hma := fun (W : World) (hW : Below w.heap.size w W) => rmade_any a0 b00 (by omega) ds W a1 len1 cap1 (hD1.grow hW)
  obtain ⟨kk, hkk⟩ : ∃ x, kOf a0 = x := ⟨_, rfl⟩
  rw [hkk] at hmd
  simp only [hkk] at hma
  obtain ⟨L, hL⟩ : ∃ x, (play kk ds (doneN ds)).2 = x := ⟨_, rfl⟩
  rw [hL] at hmd
  simp only [hL] at hma
  obtain ⟨N, hN⟩ : ∃ x, L.length = x := ⟨_, rfl⟩
  simp only [hN] at hma
  have hln : N ≤ 53 := by have := hmd.len; omega
  have HMA := Lib.hid hma
  have HN := Lib.hid hN
  have HMD := Lib.hid hmd
  clear hma hmd hN hD1 hdl1 hdL1 hdB1 hkk hL w1 hdn1 hk1 w0
  obtain ⟨c00, c01⟩ := bounds_u64 w2_0
  obtain ⟨n0, rfl⟩ : ∃ n : Nat, a2_0 = (n : Int) := ⟨a2_0.toNat, by omega⟩
  have hb0 : n0 < 18446744073709551616 := by omega
  clear c00 c01 w2_0
  obtain ⟨c10, c11⟩ := bounds_u64 w2_1
  obtain ⟨n1, rfl⟩ : ∃ n : Nat, a2_1 = (n : Int) := ⟨a2_1.toNat, by omega⟩
  have hb1 : n1 < 18446744073709551616 := by omega
  clear c10 c11 w2_1
  obtain ⟨c20, c21⟩ := bounds_u64 w2_2
  obtain ⟨n2, rfl⟩ : ∃ n : Nat, a2_2 = (n : Int) := ⟨a2_2.toNat, by omega⟩
  have hb2 : n2 < 18446744073709551616 := by omega
  clear c20 c21 w2_2
  obtain ⟨c30, c31⟩ := bounds_u64 w2_3
  obtain ⟨n3, rfl⟩ : ∃ n : Nat, a2_3 = (n : Int) := ⟨a2_3.toNat, by omega⟩
  have hb3 : n3 < 18446744073709551616 := by omega
  clear c30 c31 w2_3
  have hbx : (w.alloc (.cells #[.int .u64 (n0 : Int), .int .u64 (n1 : Int), .int .u64 (n2 : Int), .int .u64 (n3 : Int)] 51)).heap[w.heap.size]? = some (.cells #[.int .u64 (n0 : Int), .int .u64 (n1 : Int), .int .u64 (n2 : Int), .int .u64 (n3 : Int)] 51) := heap_alloc_new w _
  have HBX := Lib.hid hbx
  clear hbx
  go_enter Try.func7, Try.ntmps7
  go_upto_region 3 with (first
    | (go_at_call 8; refine (awake_any _).mono ?_; rintro e wa ⟨rfl, ha⟩; have t := (ha.block w.heap.size (by simp)).trans HBX.out; have HX := Lib.hid t; have HLX := Lib.hid (lt_of t); have HWA := Lib.hid (((Below.refl _ w).alloc (Nat.le_refl _) _).trans (ha.mono (by simp))); clear ha t)
    | (go_at_call 9; refine (HMA.out wa HWA.out).mono ?_; rintro e wb ⟨A, c, rfl, hL, hb⟩; have HL1 := Lib.hid hL; have HB1 := Lib.hid hb; clear hL hb)
    | (go_at_call 12; refine (lmade_any _ _ _ _ _ _).mono ?_; rintro e wc ⟨rfl, hb⟩; have HL2 := Lib.hid (HL1.out.grow hb); have HB2 := Lib.hid (thn HB1.out hb); clear hb))
  obtain ⟨W4, hW4⟩ : ∃ W, wc.alloc (.cells #[.int .i64 (kk : Int), .int .i64 0, .slice A N c] 31) = W := ⟨_, rfl⟩
  have hB4 : Below wc.heap.size wc W4 := by rw [← hW4]; exact (Below.refl _ wc).alloc (Nat.le_refl _) _
  have pH : W4.heap[wc.heap.size]? = some (.cells #[.int .i64 (kk : Int), .int .i64 0, .slice A N c] 31) := by rw [← hW4]; exact heap_alloc_new wc _
  have pX := (hB4.block _ (Nat.lt_of_lt_of_le HLX.out HB2.out.size)).trans ((HB2.out.block _ HLX.out).trans HX.out)
  rw [hW4]
  obtain ⟨bX, hbX⟩ : ∃ b, w.heap.size = b := ⟨_, rfl⟩
  obtain ⟨bH, hbH⟩ : ∃ b, wc.heap.size = b := ⟨_, rfl⟩
  rw [hbX] at pX ⊢
  rw [hbH] at pH ⊢
  have HL4 := Lib.hid (HL2.out.grow hB4)
  have HB4 := Lib.hid (thn (thn HWA.out HB2.out) hB4)
  have PH := Lib.hid pH
  have PX := Lib.hid pX
  have LH := Lib.hid (lt_of pH)
  have LX := Lib.hid (lt_of pX)
  obtain ⟨y0, y1, y2⟩ := box3 pH
  have Y0 := Lib.hid y0
  have Y1 := Lib.hid y1
  have Y2 := Lib.hid y2
  have x0 : W4.cell? ⟨bX, 0, none⟩ = some (.int .u64 (n0 : Int)) := by simp [World.cell?, pX]
  have X0 := Lib.hid x0
  have x1 : W4.cell? ⟨bX, 1, none⟩ = some (.int .u64 (n1 : Int)) := by simp [World.cell?, pX]
  have X1 := Lib.hid x1
  have x2 : W4.cell? ⟨bX, 2, none⟩ = some (.int .u64 (n2 : Int)) := by simp [World.cell?, pX]
  have X2 := Lib.hid x2
  have x3 : W4.cell? ⟨bX, 3, none⟩ = some (.int .u64 (n3 : Int)) := by simp [World.cell?, pX]
  have X3 := Lib.hid x3
  clear x0 x1 x2 x3 y0 y1 y2 pH pX hW4 hB4 hbX hbH HL1 HL2 HB1 HB2 HWA HX HLX HMA HBX
  obtain ⟨Da, hDa⟩ : ∃ x, dropL (max n0 n1) (min n2 n3) L = x := ⟨_, rfl⟩
  obtain ⟨Db, hDb⟩ : ∃ x, dropL (min n0 n1) (max n2 n3) L = x := ⟨_, rfl⟩
  obtain ⟨Ma, hMa⟩ : ∃ x, Da.length = x := ⟨_, rfl⟩
  obtain ⟨Mb, hMb⟩ : ∃ x, Db.length = x := ⟨_, rfl⟩
  have hmda := HMD.out.drop (max n0 n1) (min n2 n3)
  have hmdb := HMD.out.drop (min n0 n1) (max n2 n3)
  rw [hDa] at hmda
  rw [hDb] at hmdb
  have hL : dropL (n0 / 2) (n0 / 2 + 1) L = L := drop_none (k := kk) (by have := HMD.out.k2; omega) HMD.out.ok.shape (by omega)
  have hab : tot Da ≤ tot Db := by rw [← hDa, ← hDb]; exact drop_later (by omega) (by omega) L
  have hN := HN.out
  have CA' : ∀ W : World, Grows W4 W → Calls Try.prog 11 #[.agg #[.int .i64 (kk : Int), .int .i64 0, .slice A N c], .int .u64 ((max n0 n1 : Nat) : Int), .int .u64 ((min n2 n3 : Nat) : Int)] W fun e w' => ∃ A' c', e = .returned (.agg #[.int .i64 (kk : Int), .int .i64 0, .slice A' Ma c']) ∧ Levs w' w'.heap.size (.slice A' Ma c') Da ∧ Below W.heap.size W w' := by
    intro W hW
    have := drop_any kk 0 L HMD.out (max n0 n1) (min n2 n3) (by omega) W A c (by rw [HN.out]; exact HL4.out.grow hW)
    rw [hDa, hMa] at this
    try rw [HN.out] at this
    exact this
  have CA := Lib.hid CA'
  clear CA'
  have CB' : ∀ W : World, Grows W4 W → Calls Try.prog 11 #[.agg #[.int .i64 (kk : Int), .int .i64 0, .slice A N c], .int .u64 ((min n0 n1 : Nat) : Int), .int .u64 ((max n2 n3 : Nat) : Int)] W fun e w' => ∃ A' c', e = .returned (.agg #[.int .i64 (kk : Int), .int .i64 0, .slice A' Mb c']) ∧ Levs w' w'.heap.size (.slice A' Mb c') Db ∧ Below W.heap.size W w' := by
    intro W hW
    have := drop_any kk 0 L HMD.out (min n0 n1) (max n2 n3) (by omega) W A c (by rw [HN.out]; exact HL4.out.grow hW)
    rw [hDb, hMb] at this
    try rw [HN.out] at this
    exact this
  have CB := Lib.hid CB'
  clear CB'
  have CC' : ∀ W : World, Grows W4 W → Calls Try.prog 11 #[.agg #[.int .i64 (kk : Int), .int .i64 0, .slice A N c], .int .u64 ((n0 / 2 : Nat) : Int), .int .u64 ((n0 / 2 + 1 : Nat) : Int)] W fun e w' => ∃ A' c', e = .returned (.agg #[.int .i64 (kk : Int), .int .i64 0, .slice A' N c']) ∧ Levs w' w'.heap.size (.slice A' N c') L ∧ Below W.heap.size W w' := by
    intro W hW
    have := drop_any kk 0 L HMD.out (n0 / 2) (n0 / 2 + 1) (by omega) W A c (by rw [HN.out]; exact HL4.out.grow hW)
    rw [hL, hN] at this
    try rw [HN.out] at this
    exact this
  have CC := Lib.hid CC'
  clear CC'
  have hta := fun (W : World) (A' : Option Addr) (c' : Nat) (h : Levs W W.heap.size (.slice A' Da.length c') Da) => total_any (kk : Int) 0 Da (by have := hmda.len; omega) (by have := hmda.small; omega) W A' c' h
  have htb := fun (W : World) (A' : Option Addr) (c' : Nat) (h : Levs W W.heap.size (.slice A' Db.length c') Db) => total_any (kk : Int) 0 Db (by have := hmdb.len; omega) (by have := hmdb.small; omega) W A' c' h
  have hss := fun (W : World) (A8 : Option Addr) (c8 : Nat) (A9 : Option Addr) (c9 : Nat) (h8 : Levs W W.heap.size (.slice A8 L.length c8) L) (h9 : Levs W W.heap.size (.slice A9 L.length c9) L) => hsame_any (kk : Int) 0 (kk : Int) 0 L L (by have := HMD.out.len; omega) (fun i => by have := HMD.out.lev i; omega) W A8 A9 c8 c9 h8 h9
  rw [show sameB (kk : Int) 0 (kk : Int) 0 L L = true by simp [sameB], hN] at hss
  rw [hMa] at hta
  rw [hMb] at htb
  obtain ⟨ta, hta2⟩ : ∃ x, tot Da = x := ⟨_, rfl⟩
  obtain ⟨tb, htb2⟩ : ∃ x, tot Db = x := ⟨_, rfl⟩
  rw [hta2] at hta hab
  rw [htb2] at htb hab
  have TA := Lib.hid hta
  have TB := Lib.hid htb
  have SS := Lib.hid hss
  have hle : decide (ta ≤ tb) = true := by simpa using hab
  clear hta htb hss hDa hDb hMa hMb hmda hmdb hL hN hta2 htb2 hab
  obtain ⟨y0, y1, y2⟩ := box3 PH.out
  have v0 := X0.out
  have v1 := X1.out
  have v2 := X2.out
  have v3 := X3.out
  have lH := LH.out
  have lX := LX.out
  go_cut [9] from 17 to 28 (fun s wx => ∃ (p : Nat) (A' : Option Addr) (c' : Nat), s = .pointer (some ⟨p, 0, none⟩) ∧ wx.heap[p]? = some (.cells #[.int .i64 (kk : Int), .int .i64 0, .slice A' Ma c'] 31) ∧ Levs wx wx.heap.size (.slice A' Ma c') Da ∧ Below W4.heap.size W4 wx)
  case first =>
    by_cases h1 : (n0 : Int) < (n1 : Int)
    · by_cases h2 : (n3 : Int) < (n2 : Int)
      · have cc := CA.out W4 (Below.refl _ _)
        rw [show max n0 n1 = n1 by omega] at cc
        rw [show min n2 n3 = n3 by omega] at cc
        have CC_ := Lib.hid cc
        clear cc
        go_wp2_with (go_at_call 11; refine CC_.out.mono ?_; rintro e w6 ⟨A2, c2, rfl, hL2, hb2⟩; have HL2 := Lib.hid hL2; have HB2 := Lib.hid hb2; clear hL2 hb2)
        go_meet
        case rel =>
          have hB6 : Below w6.heap.size w6 (w6.alloc (.cells #[.int .i64 (kk : Int), .int .i64 0, .slice A2 Ma c2] 31)) := (Below.refl _ w6).alloc (Nat.le_refl _) _
          exact ⟨w6.heap.size, A2, c2, rfl, heap_alloc_new w6 _, HL2.out.grow hB6, thn HB2.out hB6⟩
      · have cc := CA.out W4 (Below.refl _ _)
        rw [show max n0 n1 = n1 by omega] at cc
        rw [show min n2 n3 = n2 by omega] at cc
        have CC_ := Lib.hid cc
        clear cc
        go_wp2_with (go_at_call 11; refine CC_.out.mono ?_; rintro e w6 ⟨A2, c2, rfl, hL2, hb2⟩; have HL2 := Lib.hid hL2; have HB2 := Lib.hid hb2; clear hL2 hb2)
        go_meet
        case rel =>
          have hB6 : Below w6.heap.size w6 (w6.alloc (.cells #[.int .i64 (kk : Int), .int .i64 0, .slice A2 Ma c2] 31)) := (Below.refl _ w6).alloc (Nat.le_refl _) _
          exact ⟨w6.heap.size, A2, c2, rfl, heap_alloc_new w6 _, HL2.out.grow hB6, thn HB2.out hB6⟩
    · by_cases h2 : (n3 : Int) < (n2 : Int)
      · have cc := CA.out W4 (Below.refl _ _)
        rw [show max n0 n1 = n0 by omega] at cc
        rw [show min n2 n3 = n3 by omega] at cc
        have CC_ := Lib.hid cc
        clear cc
        go_wp2_with (go_at_call 11; refine CC_.out.mono ?_; rintro e w6 ⟨A2, c2, rfl, hL2, hb2⟩; have HL2 := Lib.hid hL2; have HB2 := Lib.hid hb2; clear hL2 hb2)
        go_meet
        case rel =>
          have hB6 : Below w6.heap.size w6 (w6.alloc (.cells #[.int .i64 (kk : Int), .int .i64 0, .slice A2 Ma c2] 31)) := (Below.refl _ w6).alloc (Nat.le_refl _) _
          exact ⟨w6.heap.size, A2, c2, rfl, heap_alloc_new w6 _, HL2.out.grow hB6, thn HB2.out hB6⟩
      · have cc := CA.out W4 (Below.refl _ _)
        rw [show max n0 n1 = n0 by omega] at cc
        rw [show min n2 n3 = n2 by omega] at cc
        have CC_ := Lib.hid cc
        clear cc
        go_wp2_with (go_at_call 11; refine CC_.out.mono ?_; rintro e w6 ⟨A2, c2, rfl, hL2, hb2⟩; have HL2 := Lib.hid hL2; have HB2 := Lib.hid hb2; clear hL2 hb2)
        go_meet
        case rel =>
          have hB6 : Below w6.heap.size w6 (w6.alloc (.cells #[.int .i64 (kk : Int), .int .i64 0, .slice A2 Ma c2] 31)) := (Below.refl _ w6).alloc (Nat.le_refl _) _
          exact ⟨w6.heap.size, A2, c2, rfl, heap_alloc_new w6 _, HL2.out.grow hB6, thn HB2.out hB6⟩
  case rest =>
    obtain ⟨pa, Aa, ca, rfl, ta', La', ga'⟩ := hcut
    have PA := Lib.hid ta'
    have LA := Lib.hid La'
    have GA := Lib.hid ga'
    rename World => W5
    clear ta' La' ga'
    clear y0 y1 y2 v0 v1 v2 v3 lH lX
    have tH := (GA.out.block bH LH.out).trans PH.out
    have tX := (GA.out.block bX LX.out).trans PX.out
    obtain ⟨y0, y1, y2⟩ := box3 tH
    have v0 : W5.cell? ⟨bX, 0, none⟩ = some (.int .u64 (n0 : Int)) := by simp [World.cell?, tX]
    have v1 : W5.cell? ⟨bX, 1, none⟩ = some (.int .u64 (n1 : Int)) := by simp [World.cell?, tX]
    have v2 : W5.cell? ⟨bX, 2, none⟩ = some (.int .u64 (n2 : Int)) := by simp [World.cell?, tX]
    have v3 : W5.cell? ⟨bX, 3, none⟩ = some (.int .u64 (n3 : Int)) := by simp [World.cell?, tX]
    have lH := lt_of tH
    have lX := lt_of tX
    clear tH tX
    go_upto_region 4 with (fail)
    go_cut [10] from 29 to 40 (fun s wx => ∃ (p : Nat) (A' : Option Addr) (c' : Nat), s = .pointer (some ⟨p, 0, none⟩) ∧ wx.heap[p]? = some (.cells #[.int .i64 (kk : Int), .int .i64 0, .slice A' Mb c'] 31) ∧ Levs wx wx.heap.size (.slice A' Mb c') Db ∧ Below W5.heap.size W5 wx)
    case first =>
      by_cases h1 : (n1 : Int) < (n0 : Int)
      · by_cases h2 : (n2 : Int) < (n3 : Int)
        · have cc := CB.out W5 GA.out
          rw [show min n0 n1 = n1 by omega] at cc
          rw [show max n2 n3 = n3 by omega] at cc
          have CC_ := Lib.hid cc
          clear cc
          go_wp2_with (go_at_call 11; refine CC_.out.mono ?_; rintro e w6 ⟨A2, c2, rfl, hL2, hb2⟩; have HL2 := Lib.hid hL2; have HB2 := Lib.hid hb2; clear hL2 hb2)
          go_meet
          case rel =>
            have hB6 : Below w6.heap.size w6 (w6.alloc (.cells #[.int .i64 (kk : Int), .int .i64 0, .slice A2 Mb c2] 31)) := (Below.refl _ w6).alloc (Nat.le_refl _) _
            exact ⟨w6.heap.size, A2, c2, rfl, heap_alloc_new w6 _, HL2.out.grow hB6, thn HB2.out hB6⟩
        · have cc := CB.out W5 GA.out
          rw [show min n0 n1 = n1 by omega] at cc
          rw [show max n2 n3 = n2 by omega] at cc
          have CC_ := Lib.hid cc
          clear cc
          go_wp2_with (go_at_call 11; refine CC_.out.mono ?_; rintro e w6 ⟨A2, c2, rfl, hL2, hb2⟩; have HL2 := Lib.hid hL2; have HB2 := Lib.hid hb2; clear hL2 hb2)
          go_meet
          case rel =>
            have hB6 : Below w6.heap.size w6 (w6.alloc (.cells #[.int .i64 (kk : Int), .int .i64 0, .slice A2 Mb c2] 31)) := (Below.refl _ w6).alloc (Nat.le_refl _) _
            exact ⟨w6.heap.size, A2, c2, rfl, heap_alloc_new w6 _, HL2.out.grow hB6, thn HB2.out hB6⟩
      · by_cases h2 : (n2 : Int) < (n3 : Int)
        · have cc := CB.out W5 GA.out
          rw [show min n0 n1 = n0 by omega] at cc
          rw [show max n2 n3 = n3 by omega] at cc
          have CC_ := Lib.hid cc
          clear cc
          go_wp2_with (go_at_call 11; refine CC_.out.mono ?_; rintro e w6 ⟨A2, c2, rfl, hL2, hb2⟩; have HL2 := Lib.hid hL2; have HB2 := Lib.hid hb2; clear hL2 hb2)
          go_meet
          case rel =>
            have hB6 : Below w6.heap.size w6 (w6.alloc (.cells #[.int .i64 (kk : Int), .int .i64 0, .slice A2 Mb c2] 31)) := (Below.refl _ w6).alloc (Nat.le_refl _) _
            exact ⟨w6.heap.size, A2, c2, rfl, heap_alloc_new w6 _, HL2.out.grow hB6, thn HB2.out hB6⟩
        · have cc := CB.out W5 GA.out
          rw [show min n0 n1 = n0 by omega] at cc
          rw [show max n2 n3 = n2 by omega] at cc
          have CC_ := Lib.hid cc
          clear cc
          go_wp2_with (go_at_call 11; refine CC_.out.mono ?_; rintro e w6 ⟨A2, c2, rfl, hL2, hb2⟩; have HL2 := Lib.hid hL2; have HB2 := Lib.hid hb2; clear hL2 hb2)
          go_meet
          case rel =>
            have hB6 : Below w6.heap.size w6 (w6.alloc (.cells #[.int .i64 (kk : Int), .int .i64 0, .slice A2 Mb c2] 31)) := (Below.refl _ w6).alloc (Nat.le_refl _) _
            exact ⟨w6.heap.size, A2, c2, rfl, heap_alloc_new w6 _, HL2.out.grow hB6, thn HB2.out hB6⟩
    case rest =>
      obtain ⟨pb, Ab, cb, rfl, tb', Lb', gb'⟩ := hcut
      have PB := Lib.hid tb'
      have LB := Lib.hid Lb'
      have GB5 := Lib.hid gb'
      have GB := Lib.hid (thn GA.out gb')
      rename World => W6
      clear tb' Lb' gb'
      clear y0 y1 y2 v0 v1 v2 v3 lH lX
      have tH := (GB.out.block bH LH.out).trans PH.out
      have tX := (GB.out.block bX LX.out).trans PX.out
      obtain ⟨y0, y1, y2⟩ := box3 tH
      have v0 : W6.cell? ⟨bX, 0, none⟩ = some (.int .u64 (n0 : Int)) := by simp [World.cell?, tX]
      have v1 : W6.cell? ⟨bX, 1, none⟩ = some (.int .u64 (n1 : Int)) := by simp [World.cell?, tX]
      have v2 : W6.cell? ⟨bX, 2, none⟩ = some (.int .u64 (n2 : Int)) := by simp [World.cell?, tX]
      have v3 : W6.cell? ⟨bX, 3, none⟩ = some (.int .u64 (n3 : Int)) := by simp [World.cell?, tX]
      have lH := lt_of tH
      have lX := lt_of tX
      clear tH tX
      obtain ⟨hf, hhf⟩ : ∃ hf : Nat, n0 / 2 = hf := ⟨_, rfl⟩
      have hhi : (n0 : Int) / 2 = (hf : Int) := by omega
      have hhb : (hf : Int) + 1 ≤ 18446744073709551615 := by omega
      have cc := CC.out W6 GB.out
      rw [hhf] at cc
      have CC_ := Lib.hid cc
      clear cc hhf
      go_upto_region 6 with (go_at_call 11; refine CC_.out.mono ?_; rintro e w7 ⟨A2, c2, rfl, hL2, hb2⟩; have HL2 := Lib.hid hL2; have HB2 := Lib.hid hb2; clear hL2 hb2)
      obtain ⟨W7, hW7⟩ : ∃ W, w7.alloc (.cells #[.int .i64 (kk : Int), .int .i64 0, .slice A2 N c2] 31) = W := ⟨_, rfl⟩
      have hB7 : Below w7.heap.size w7 W7 := by rw [← hW7]; exact (Below.refl _ w7).alloc (Nat.le_refl _) _
      have pC : W7.heap[w7.heap.size]? = some (.cells #[.int .i64 (kk : Int), .int .i64 0, .slice A2 N c2] 31) := by rw [← hW7]; exact heap_alloc_new w7 _
      rw [hW7]
      obtain ⟨pc, hpc⟩ : ∃ b, w7.heap.size = b := ⟨_, rfl⟩
      have g67 : Below W6.heap.size W6 W7 := thn HB2.out hB7
      have g57 := thn GB5.out g67
      have g47 := thn GB.out g67
      have tA := (g57.block _ (lt_of PA.out)).trans PA.out
      have tB := (g67.block _ (lt_of PB.out)).trans PB.out
      have tH := (g47.block _ LH.out).trans PH.out
      have HLA := Lib.hid (LA.out.grow g57)
      have HLB := Lib.hid (LB.out.grow g67)
      have HLC := Lib.hid (HL2.out.grow hB7)
      have HLH := Lib.hid (HL4.out.grow g47)
      have HB7 := Lib.hid (thn HB4.out g47)
      rw [hpc] at pC ⊢
      obtain ⟨e0, e1, e2⟩ := box3 tA
      have U0 := Lib.hid e0
      have U1 := Lib.hid e1
      have U2 := Lib.hid e2
      have LU := Lib.hid (lt_of tA)
      clear e0 e1 e2
      obtain ⟨e0, e1, e2⟩ := box3 tB
      have V0 := Lib.hid e0
      have V1 := Lib.hid e1
      have V2 := Lib.hid e2
      have LV := Lib.hid (lt_of tB)
      clear e0 e1 e2
      obtain ⟨e0, e1, e2⟩ := box3 pC
      have Z0 := Lib.hid e0
      have Z1 := Lib.hid e1
      have Z2 := Lib.hid e2
      have LZ := Lib.hid (lt_of pC)
      clear e0 e1 e2
      obtain ⟨e0, e1, e2⟩ := box3 tH
      have T0 := Lib.hid e0
      have T1 := Lib.hid e1
      have T2 := Lib.hid e2
      have LT := Lib.hid (lt_of tH)
      clear e0 e1 e2
      clear tA tB tH pC hpc g67 g57 g47 hB7 hW7 y0 y1 y2 v0 v1 v2 v3 lH lX hhi hhb
      refine region_facts0 (fr := ?frA) 13 [50, 51, 52, 53, 54, 55, 56, 57, 58, 59, 60, 61, 62] (fun i v W => match i with
          | 0 => v = .bool true
          | 1 => v = .bool true
          | 2 => v = .agg #[.int .i64 (kk : Int), .int .i64 0, .slice Aa Ma ca]
          | 3 => v = .int .u64 (ta : Int)
          | 4 => v = .agg #[.int .i64 (kk : Int), .int .i64 0, .slice Ab Mb cb]
          | 5 => v = .int .u64 (tb : Int)
          | 6 => v = .bool true
          | 7 => v = .bool true
          | 8 => v = .bool true
          | 9 => v = .agg #[.int .i64 (kk : Int), .int .i64 0, .slice A2 N c2]
          | 10 => v = .agg #[.int .i64 (kk : Int), .int .i64 0, .slice A N c]
          | 11 => v = .bool true
          | 12 => v = .bool true
          | _ => True) rfl ?hBA (by kernel_rfl) (by kernel_rfl) (by kernel_rfl) ?hfrA ?hFA ?hopA ?htailA
      case hBA => kernel_rfl
      case hfrA =>
        intro us
        simp only [putL]
        go_simp
        rfl
      case hFA =>
        intro i v W W' hG h
        match i with
        | 0 => exact h
        | 1 => exact h
        | 2 => exact h
        | 3 => exact h
        | 4 => exact h
        | 5 => exact h
        | 6 => exact h
        | 7 => exact h
        | 8 => exact h
        | 9 => exact h
        | 10 => exact h
        | 11 => exact h
        | 12 => exact h
        | n + 13 => trivial
      case hopA =>
        intro i hi us W2 hG hd
        match i, hi with
        | 0, _ =>
          clear hd
          exact hop_value rfl rfl rfl (v := .bool true) (W' := W2) (by go_simp) (Grows.refl _) rfl
        | 1, _ =>
          have h0 : us 0 = .bool true := hd 0 (by omega) (by kernel_rfl)
          clear hd
          exact hop_value rfl rfl rfl (v := .bool true) (W' := W2) (by go_simp) (Grows.refl _) rfl
        | 2, _ =>
          have h1 : us 1 = .bool true := hd 1 (by omega) (by kernel_rfl)
          clear hd
          rw [h1]
          have q0 := (hG.cell (b := pa) (o := 0) LU.out).trans U0.out
          have q0l := Nat.lt_of_lt_of_le LU.out hG.size
          have q1 := (hG.cell (b := pa) (o := 1) LU.out).trans U1.out
          have q1l := Nat.lt_of_lt_of_le LU.out hG.size
          have q2 := (hG.cell (b := pa) (o := 2) LU.out).trans U2.out
          have q2l := Nat.lt_of_lt_of_le LU.out hG.size
          exact hop_value rfl rfl rfl (v := .agg #[.int .i64 (kk : Int), .int .i64 0, .slice Aa Ma ca]) (W' := W2) (by go_simp) (Grows.refl _) rfl
        | 3, _ =>
          have h1 : us 1 = .bool true := hd 1 (by omega) (by kernel_rfl)
          have h2 : us 2 = .agg #[.int .i64 (kk : Int), .int .i64 0, .slice Aa Ma ca] := hd 2 (by omega) (by kernel_rfl)
          clear hd
          rw [h1]
          refine hop_call rfl rfl rfl (f := 22) (args := #[.agg #[.int .i64 (kk : Int), .int .i64 0, .slice Aa Ma ca]]) (by go_simp) ?_
          refine (TA.out W2 _ _ (HLA.out.grow hG)).mono ?_
          rintro e W' ⟨rfl, hb⟩
          exact ⟨_, rfl, hb, rfl⟩
        | 4, _ =>
          have h1 : us 1 = .bool true := hd 1 (by omega) (by kernel_rfl)
          clear hd
          rw [h1]
          have q0 := (hG.cell (b := pb) (o := 0) LV.out).trans V0.out
          have q0l := Nat.lt_of_lt_of_le LV.out hG.size
          have q1 := (hG.cell (b := pb) (o := 1) LV.out).trans V1.out
          have q1l := Nat.lt_of_lt_of_le LV.out hG.size
          have q2 := (hG.cell (b := pb) (o := 2) LV.out).trans V2.out
          have q2l := Nat.lt_of_lt_of_le LV.out hG.size
          exact hop_value rfl rfl rfl (v := .agg #[.int .i64 (kk : Int), .int .i64 0, .slice Ab Mb cb]) (W' := W2) (by go_simp) (Grows.refl _) rfl
        | 5, _ =>
          have h1 : us 1 = .bool true := hd 1 (by omega) (by kernel_rfl)
          have h4 : us 4 = .agg #[.int .i64 (kk : Int), .int .i64 0, .slice Ab Mb cb] := hd 4 (by omega) (by kernel_rfl)
          clear hd
          rw [h1]
          refine hop_call rfl rfl rfl (f := 22) (args := #[.agg #[.int .i64 (kk : Int), .int .i64 0, .slice Ab Mb cb]]) (by go_simp) ?_
          refine (TB.out W2 _ _ (HLB.out.grow hG)).mono ?_
          rintro e W' ⟨rfl, hb⟩
          exact ⟨_, rfl, hb, rfl⟩
        | 6, _ =>
          have h1 : us 1 = .bool true := hd 1 (by omega) (by kernel_rfl)
          have h3 : us 3 = .int .u64 (ta : Int) := hd 3 (by omega) (by kernel_rfl)
          have h5 : us 5 = .int .u64 (tb : Int) := hd 5 (by omega) (by kernel_rfl)
          clear hd
          rw [h1]
          exact hop_value rfl rfl rfl (v := .bool true) (W' := W2) (by go_simp) (Grows.refl _) rfl
        | 7, _ =>
          have h1 : us 1 = .bool true := hd 1 (by omega) (by kernel_rfl)
          have h6 : us 6 = .bool true := hd 6 (by omega) (by kernel_rfl)
          clear hd
          exact hop_value rfl rfl rfl (v := .bool true) (W' := W2) (by go_simp) (Grows.refl _) rfl
        | 8, _ =>
          have h7 : us 7 = .bool true := hd 7 (by omega) (by kernel_rfl)
          clear hd
          exact hop_value rfl rfl rfl (v := .bool true) (W' := W2) (by go_simp) (Grows.refl _) rfl
        | 9, _ =>
          have h8 : us 8 = .bool true := hd 8 (by omega) (by kernel_rfl)
          clear hd
          rw [h8]
          have q0 := (hG.cell (b := pc) (o := 0) LZ.out).trans Z0.out
          have q0l := Nat.lt_of_lt_of_le LZ.out hG.size
          have q1 := (hG.cell (b := pc) (o := 1) LZ.out).trans Z1.out
          have q1l := Nat.lt_of_lt_of_le LZ.out hG.size
          have q2 := (hG.cell (b := pc) (o := 2) LZ.out).trans Z2.out
          have q2l := Nat.lt_of_lt_of_le LZ.out hG.size
          exact hop_value rfl rfl rfl (v := .agg #[.int .i64 (kk : Int), .int .i64 0, .slice A2 N c2]) (W' := W2) (by go_simp) (Grows.refl _) rfl
        | 10, _ =>
          have h8 : us 8 = .bool true := hd 8 (by omega) (by kernel_rfl)
          clear hd
          rw [h8]
          have q0 := (hG.cell (b := bH) (o := 0) LT.out).trans T0.out
          have q0l := Nat.lt_of_lt_of_le LT.out hG.size
          have q1 := (hG.cell (b := bH) (o := 1) LT.out).trans T1.out
          have q1l := Nat.lt_of_lt_of_le LT.out hG.size
          have q2 := (hG.cell (b := bH) (o := 2) LT.out).trans T2.out
          have q2l := Nat.lt_of_lt_of_le LT.out hG.size
          exact hop_value rfl rfl rfl (v := .agg #[.int .i64 (kk : Int), .int .i64 0, .slice A N c]) (W' := W2) (by go_simp) (Grows.refl _) rfl
        | 11, _ =>
          have h8 : us 8 = .bool true := hd 8 (by omega) (by kernel_rfl)
          have h9 : us 9 = .agg #[.int .i64 (kk : Int), .int .i64 0, .slice A2 N c2] := hd 9 (by omega) (by kernel_rfl)
          have h10 : us 10 = .agg #[.int .i64 (kk : Int), .int .i64 0, .slice A N c] := hd 10 (by omega) (by kernel_rfl)
          clear hd
          rw [h8]
          refine hop_call rfl rfl rfl (f := 17) (args := #[.agg #[.int .i64 (kk : Int), .int .i64 0, .slice A2 N c2], .agg #[.int .i64 (kk : Int), .int .i64 0, .slice A N c]]) (by go_simp) ?_
          refine (SS.out W2 _ _ _ _ (HLC.out.grow hG) (HLH.out.grow hG)).mono ?_
          rintro e W' ⟨rfl, hb⟩
          exact ⟨_, rfl, hb, rfl⟩
        | 12, _ =>
          have h8 : us 8 = .bool true := hd 8 (by omega) (by kernel_rfl)
          have h11 : us 11 = .bool true := hd 11 (by omega) (by kernel_rfl)
          clear hd
          exact hop_value rfl rfl rfl (v := .bool true) (W' := W2) (by go_simp) (Grows.refl _) rfl
        | d + 13, h => exact absurd h (by omega)
      case htailA =>
        intro us W2 hG hf
        have hz : us 12 = .bool true := hf 12 (by omega)
        clear hf
        rw [hz]
        have HG2 := Lib.hid hG
        clear hz hG
        simp only [List.drop_succ_cons, List.drop_zero]
        repeat (go_big_quiet_step (fail))
        refine wpQuiet_nil ?_
        rintro w' ⟨nq, rfl⟩
        have HBX := Lib.hid (below_drewN HG2.out nq)
        clear HG2
        generalize W2.drewN nq = wy at *
        go_wp2
        go_ret
        exact ⟨rfl, thn HB7.out HBX.out⟩

set_option maxRecDepth 100000 in
theorem lifted (os : Os) (started : os.Started) (H : Type) (enc : TypeId × Value → H) :
    ReturnsInHanded {} Try.checked os 7 .any (Rows.expiryLaterSpec.pre6 enc Try.prog Try.f7 Rows.expiryLaterRow.domain false) (Rows.expiryLaterSpec.post enc Try.prog Try.f7 false true false false) := by
  refine returnsInHanded_of_change (C := Try.checked) own started (by kernel_rfl) Try.func7
    (ChangeSpec.witness6 (enc := enc) (C := Try.checked) false ⟨#[], #[.int .i64 0, .slice none 0 0, .agg #[.int .u64 0, .int .u64 0, .int .u64 0, .int .u64 0]], []⟩ 8 (by kernel_rfl) (by kernel_rfl) (by kernel_rfl) (by kernel_rfl)) ?_
  intro W base args ds gs before hval0 hW hcnd _
  have hval : ∀ (j : Nat) t v, Try.f7.params[j]? = some t → args[j]? = some v → Value.okWide Try.prog W .any base t v := hval0
  have hW' := hW
  obtain ⟨p, q, hA0, hV, rfl, hfz, hnd⟩ := hW
  have hA : DataW.TrodAll enc Try.prog W 0 (fun _ => true) true Try.f7.params.toList args.toList ds p := hA0
  rw [Try.params7] at hA hval
  obtain ⟨v0, vs0, d0, ds0, p0, q0, hargs, rfl, rfl, h0, r0⟩ := trodAll_cons hA
  obtain ⟨v1, vs1, d1, ds1, p1, q1, rfl, rfl, rfl, h1, r1⟩ := trodAll_cons r0
  obtain ⟨v2, vs2, d2, ds2, p2, q2, rfl, rfl, rfl, h2, r2⟩ := trodAll_cons r1
  obtain ⟨rfl, rfl, rfl⟩ := trodAll_nil r2
  obtain rfl : args = #[v0, v1, v2] := by cases args; simp_all
  obtain ⟨rfl, rfl⟩ := trodVars_none hV
  obtain ⟨a0, rfl, rfl, rfl, w0⟩ := open_int Try.underlying3 (hval 0 3 v0 rfl rfl) h0
  obtain ⟨a1, len1, cap1, rfl⟩ := okWide_slice Try.underlying22 (hval 1 22 v1 rfl rfl)
  have k1 := h1
  have lt1 : ∀ x ∈ p1, x.block < W.heap.size := by obtain ⟨m, hm⟩ := k1; exact DataW.trod_lt m _ _ _ hm
  obtain ⟨z1, w1⟩ := Op.open_flats (f := 9) (ks := [.u64, .u64]) Try.underlying22 (by kernel_rfl) (by kernel_rfl) (by decide) h1
  have k2 := h2
  have lt2 : ∀ x ∈ p2, x.block < W.heap.size := by obtain ⟨m, hm⟩ := k2; exact DataW.trod_lt m _ _ _ hm
  obtain ⟨c2, rfl, fit2⟩ := Op.open_flat (f := 9) (ks := [.u64, .u64, .u64, .u64]) (by kernel_rfl) (by kernel_rfl) (hval 2 51 v2 rfl rfl) h2
  obtain ⟨a2_0, a2_1, a2_2, a2_3, rfl, w2_0, w2_1, w2_2, w2_3⟩ := fit2_of fit2
  clear hA0 hval0
  refine (walk a0 a1 len1 cap1 z1 a2_0 a2_1 a2_2 a2_3 W w0 w1 w2_0 w2_1 w2_2 w2_3).mono fun e W' ⟨he, bel⟩ => ?_
  subst he
  exact ⟨_, rfl, _, _, _, [], _, [], hW', trodAll_mk1 (shut_bool Try.underlying4 _), (trodAll_cons_mk (shut_int Try.underlying3 w0) (trodAll_cons_mk (Below.trod laidOut (by kernel_rfl) (of_decide_eq_true (by kernel_rfl)) k1 bel lt1) (trodAll_cons_mk (Below.trod laidOut (by kernel_rfl) (of_decide_eq_true (by kernel_rfl)) k2 bel lt2) trodAll_mk0))), rfl, bel.frame _, fun h => by cases h⟩

theorem over : Rows.expiryLaterRow.holds Try.pinned (OpenSpec.ofChange Rows.expiryLaterSpec) :=
  OpenClaim.holds_of_wide 7 Try.f7 rfl rfl rfl rfl rfl rfl rfl ⟨rfl, rfl, rfl, rfl, rfl⟩ rfl rfl rfl rfl rfl (by kernel_rfl) Try.func7 (by kernel_rfl)
    (of_decide_eq_true (by kernel_rfl)) (by unfold Func.isWrapper; first | (rw [if_pos (by decide +kernel)]; kernel_rfl) | (rw [if_neg (by decide +kernel)]; exact ⟨rfl, rfl⟩))
    (fun os started H enc _ => lifted os started H enc)

/-- The statement. -/
theorem proved : Rows.ExpiryLaterSaid := over
#print axioms proved
end Go.Proofs.Ytafcgfhkeceiaaa.expiryLater
