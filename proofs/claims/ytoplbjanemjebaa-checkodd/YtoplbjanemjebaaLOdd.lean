/-
  'skylight/skylightlaw09.CheckOdd' returns true for every input, and the input reads afterwards as it read before. Conditions: none.
-/
import Derived.Test.YtoplbjanemjebaaRows
import Derived.WalkKit
import Derived.ProofKit
import Derived.OpenShut
import Derived.ShutString
import Derived.ChangeOld
import Derived.Below
import Derived.Test.YtoplbjanemjebaaOpen
import Derived.Test.YtoplbjanemjebaaCkAwk
import Derived.Test.YtoplbjanemjebaaCkCopy
import Derived.Test.YtoplbjanemjebaaCkLen
namespace Go.Proofs.Ytoplbjanemjebaa.checkOdd
open Go.Proofs Go.Proofs.Rn Go.Proofs.Op Go.Proofs.Rw Go.Proofs.Lm Go.Proofs.Lh Go.Proofs.Rf
open Go.ChangeShapes Go.WideShapes Go.ChangeAt Go.RowKit
open Go.ChangeMaps (open_string shut_string)
set_option linter.unusedVariables false

theorem own : ownKnob Try.prog.godebug = none := by kernel_rfl
theorem laidOut : laidOutB Try.prog = true := by kernel_rfl

/-- A slice of integers that came in: nil, or a row of cells of its capacity, each fitting its kind. -/
def IsRow (k : IntKind) (w : World) (a : Option Addr) (len cap : Nat) (zs : List Int) : Prop :=
  (a = none ∧ len = 0 ∧ cap = 0 ∧ zs = []) ∨
  ∃ x, a = some x ∧ len ≤ cap ∧ cap ≤ maxLen ∧ zs.length = cap ∧ (∀ i, i < zs.length → w.cell? (x.add i) = some (.int k (zs.getD i 0))) ∧ ∀ n ∈ zs, (Lit.int k n).wf = true

open Go.RowKit Go.Shelf Go.Proofs.Rw Go.Proofs.Lh Go.Proofs.Rf
theorem mem_all : ∀ {ls : Lv} {i : Nat} {x : Rw.Sp} (hi : i < ls.length), x ∈ ls[i] → x ∈ allOf ls
  | [], _, _, hi, _ => absurd hi (by simp)
  | l :: ls, 0, x, _, h => by rw [allOf]; exact List.mem_append_right _ h
  | l :: ls, i + 1, x, hi, h => by rw [allOf]; exact List.mem_append_left _ (mem_all (i := i) (by simpa using hi) (by simpa using h))
theorem lev_set (L : Lv) (i j k : Nat) (x : Rw.Sp) (hi : i < L.length) : (lev (L.set i (L[i].set j x)) k).length = (lev L k).length := by
  unfold lev
  rw [List.getElem?_set]
  by_cases h : i = k
  · subst h
    rw [if_pos rfl, if_pos hi, List.getElem?_eq_getElem hi]
    simp
  · rw [if_neg h]
/-- A bucket that may not be makes it one that may not be. -/
theorem chk_set {k : Nat} {L : Lv} (hm : Made k L) {i j : Nat} (hi : i < L.length) (hj : j < L[i].length) {x : Rw.Sp} (hx : x.2 < x.1 ∨ 9223372036854775807 < x.2) : chk (k : Int) 0 (L.set i (L[i].set j x)) = 2 := by
  refine chk_bad hm.k2 hm.k1 (good_not (.inr (turn_not (x := x) (mem_all (i := i) (by simpa using hi) ?_) hx)))
  simp only [List.getElem_set_self]
  exact List.mem_iff_getElem.2 ⟨j, by simpa using hj, by simp⟩
theorem chk_empty {k : Nat} {L : Lv} (hm : Made k L) : chk (k : Int) 0 (L ++ [[]]) = 2 := chk_bad hm.k2 hm.k1 (good_not (.inl (empty_not k L)))
theorem Grows.blk {A B : World} (h : Below A.heap.size A B) {b : Nat} {o : Obj} (hb : A.heap[b]? = some o) : B.heap[b]? = some o := (h.block b (lt_of hb)).trans hb
/-- A bucket was written into a row of the call's own. -/
theorem odd_fin {W0 W : World} {gi o : Nat} {a b v : Value} {L1 : Lv} (hB : Below W0.heap.size W0 W) (hgi : W0.heap.size ≤ gi) (hL : Levs ((W.setCell ⟨gi, o, none⟩ a).setCell ⟨gi, o + 1, none⟩ b) W.heap.size v L1) :
    ∃ W1, (W.setCell ⟨gi, o, none⟩ a).setCell ⟨gi, o + 1, none⟩ b = W1 ∧ Levs W1 W1.heap.size v L1 ∧ Below W0.heap.size W0 W1 ∧ ∀ p, p ≠ gi → W1.heap[p]? = W.heap[p]? := by
  refine ⟨_, rfl, hL.mono (by simp [World.setCell]), (hB.setCell (p := ⟨gi, o, none⟩) hgi a).setCell (p := ⟨gi, o + 1, none⟩) hgi b, fun p hp => ?_⟩
  rw [Below.heap_setCell _ _ _ _ (by simpa using hp), Below.heap_setCell _ _ _ _ (by simpa using hp)]
theorem odd_fin' {W0 W : World} {gi o : Nat} {a b v : Value} {L1 : Lv} (hB : Below W0.heap.size W0 W) (hgi : W0.heap.size ≤ gi) (hL : Levs ((W.setCell ⟨gi, o, none⟩ a).setCell ⟨gi, o + 1, none⟩ b) W.heap.size v L1) :
    ∃ W1, ((W.setCell ⟨gi, o, none⟩ a).setCell ⟨gi, o + 1, none⟩ b).drew = W1 ∧ Levs W1 W1.heap.size v L1 ∧ Below W0.heap.size W0 W1 ∧ ∀ p, p ≠ gi → W1.heap[p]? = W.heap[p]? := by
  obtain ⟨W1, e, h1, h2, h3⟩ := odd_fin hB hgi hL
  rw [e]
  exact ⟨_, rfl, h1.grow (Below.refl _ _).drew, h2.drew, fun p hp => h3 p hp⟩
theorem set_last {L : Lv} {M : Nat} (h : L.length = M + 1) (l : List Rw.Sp) : L.set M l = L.take M ++ [l] := by
  have := set_take (ls := L) (i := M) (by omega) l
  rw [List.take_of_length_le (by omega)] at this
  exact this

set_option maxRecDepth 100000 in
set_option maxHeartbeats 4000000 in
theorem walk (a0 : Int) (a1 : Option Addr) (len1 cap1 : Nat) (z1 : Nat → Nat → Int) (a2 : Int) (w : World) (w0 : (Lit.int .i64 a0).wf = true) (w1 : Op.FlatRow [.u64, .u64] w a1 len1 cap1 z1) (w2 : (Lit.int .u8 a2).wf = true) :
    Calls Try.prog 5 #[.int .i64 a0, .slice a1 len1 cap1, .int .u8 a2] w fun e w' => e = .returned (.bool true) ∧ Below w.heap.size w w' := by
  obtain ⟨ds, hdl1, hdL1, hdB1⟩ := sp_of_row w1
  have hD1 : Deeds w a1 len1 cap1 ds := ⟨hdl1, hdL1, hdB1⟩
  obtain ⟨b00, b01⟩ := bounds_i64 w0
  obtain ⟨b20, b21⟩ := bounds_u8 w2
  have hk1 := kOf_le a0
  have hdn1 : doneN ds ≤ ds.length := by unfold doneN; omega
  have hmd : Made (kOf a0) (play (kOf a0) ds (doneN ds)).2 := play_made hk1.1 (by omega) ds _ hdn1
  have hma := fun (W : World) (hW : Below w.heap.size w W) => rmade_any a0 b00 (by omega) ds W a1 len1 cap1 (hD1.grow hW)
  have hall := play_all hk1.1 (by omega) ds (doneN ds) hdn1
  have hd30 : doneN ds ≤ 30 := by unfold doneN; omega
  obtain ⟨kk, hkk⟩ : ∃ x, kOf a0 = x := ⟨_, rfl⟩
  rw [hkk] at hmd hall
  simp only [hkk] at hma
  obtain ⟨L, hL⟩ : ∃ x, (play kk ds (doneN ds)).2 = x := ⟨_, rfl⟩
  rw [hL] at hmd hall
  simp only [hL] at hma
  have hmax : ∀ x ∈ allOf L, x.2 ≤ 30000 := fun x hx => by have := hall x hx; omega
  obtain ⟨N, hN⟩ : ∃ x, L.length = x := ⟨_, rfl⟩
  simp only [hN] at hma
  have hln : N ≤ 53 := by have := hmd.len; omega
  have HMA := Lib.hid hma
  have HN := Lib.hid hN
  have HMD := Lib.hid hmd
  have HMAX := Lib.hid hmax
  clear hma hmd hN hD1 hdl1 hdL1 hdB1 hkk hL w1 hdn1 hk1 w0 hall hmax hd30 w2
  go_enter Try.func5, Try.ntmps5
  go_upto_region 3 with (first
    | (go_at_call 8; refine (awake_any _).mono ?_; rintro e wa ⟨rfl, ha⟩; have HWA := Lib.hid ha; clear ha)
    | (go_at_call 17; refine (HMA.out wa HWA.out).mono ?_; rintro e wc ⟨A, c, rfl, hL, hb⟩; have HL1 := Lib.hid hL; have HB1 := Lib.hid hb; clear hL hb))
  obtain ⟨W4, hW4⟩ : ∃ W, wc.alloc (.cells #[.int .i64 (kk : Int), .int .i64 0, .slice A N c] 29) = W := ⟨_, rfl⟩
  have hB4 : Below wc.heap.size wc W4 := by rw [← hW4]; exact (Below.refl _ wc).alloc (Nat.le_refl _) _
  have pH : W4.heap[wc.heap.size]? = some (.cells #[.int .i64 (kk : Int), .int .i64 0, .slice A N c] 29) := by rw [← hW4]; exact heap_alloc_new wc _
  rw [hW4]
  obtain ⟨bH, hbH⟩ : ∃ b, wc.heap.size = b := ⟨_, rfl⟩
  rw [hbH] at pH ⊢
  have HL4 := Lib.hid (HL1.out.grow hB4)
  have HB4 := Lib.hid (thn (thn HWA.out HB1.out) hB4)
  have PH := Lib.hid pH
  obtain ⟨y0, y1, y2⟩ := box3 pH
  have lH := lt_of pH
  clear pH hW4 hB4 hbH HL1 HB1 HWA HMA
  by_cases h0 : N = 0
  · subst h0
    go_wp2
    go_ret
    exact ⟨rfl, HB4.out⟩
  have hNp : 0 < N := by omega
  go_upto_region 6 with (fail)
  obtain ⟨i, hi⟩ : ∃ i : Nat, a2 % (N : Int) = (i : Int) := ⟨(a2 % (N : Int)).toNat, by have := Int.emod_nonneg a2 (show (N : Int) ≠ 0 by omega); omega⟩
  have hiN : i < N := by have := Int.emod_lt_of_pos a2 (show (0 : Int) < (N : Int) by omega); omega
  rw [hi]
  have hlp : ∀ j (hj : j < L.length), 0 < L[j].length := fun j hj => by
    have := (shape_at (by have := HMD.out.k2; omega) j HMD.out.ok.shape hj).1
    rw [lev_lt hj] at this
    exact this
  have hlm : ∀ j (hj : j < L.length), L[j].length ≤ 1026 := fun j hj => by
    have := HMD.out.lev j
    rw [lev_lt hj] at this
    exact this
  have hne : ∀ l ∈ L, l ≠ [] := fun l hl e => by
    obtain ⟨j, hj, he⟩ := List.getElem_of_mem hl
    have := hlp j hj
    rw [he, e] at this
    simp at this
  have hlv : ∀ l ∈ L, l.length ≤ 1000000 := fun l hl => by
    obtain ⟨j, hj, he⟩ := List.getElem_of_mem hl
    have := hlm j hj
    rw [he] at this
    omega
  have hcp : ∀ (W : World), Levs W W.heap.size (.slice A N c) L → Calls Try.prog 19 #[hv (kk : Int) 0 (.slice A N c)] W fun e w' => ∃ A' c', e = .returned (hv (kk : Int) 0 (.slice A' N c')) ∧ Fresh w' W.heap.size (.slice A' N c') L ∧ Below W.heap.size W w' := by
    intro W hW
    have := copied_any (kk : Int) 0 L (by have := HMD.out.len; omega) hne hlv W A c (by rw [HN.out]; exact hW)
    rw [HN.out] at this
    exact this
  have HCP := Lib.hid hcp
  have HLP := Lib.hid hlp
  have HLM := Lib.hid hlm
  clear hcp hne hlv hlp hlm hi
  have hiL : i < L.length := by rw [HN.out]; exact hiN
  obtain ⟨bL, oL, rfl, hbL, -, hat⟩ := HL4.out.at (by omega)
  obtain ⟨Ai, ci, hci, -, -, hLi⟩ := hat i hiL
  have hn0 := HLP.out i hiL
  obtain ⟨bi, oi, rfl, hbi, -, hcell⟩ := sp_at hLi hn0
  obtain ⟨v0, v1⟩ := hcell 0 hn0
  have hs2 := HMAX.out _ (mem_all hiL (List.getElem_mem hn0))
  have hs1 : (L[i][0]).1 ≤ (L[i][0]).2 := by
    have hin : inTurn 0 (allOf L) = true := turn_in HMD.out.ok.turn (fun x hx => ⟨Nat.zero_le _, by have := HMAX.out x hx; omega⟩)
    exact (in_turn hin _ (mem_all hiL (List.getElem_mem hn0))).1
  obtain ⟨s0, hs0'⟩ : ∃ x, (L[i][0]).1 = x := ⟨_, rfl⟩
  obtain ⟨s1, hs1'⟩ : ∃ x, (L[i][0]).2 = x := ⟨_, rfl⟩
  rw [hs0'] at v0 hs1
  rw [hs1'] at v1 hs1 hs2
  obtain ⟨n, hn⟩ : ∃ n, L[i].length = n := ⟨_, rfl⟩
  rw [hn] at hci hn0
  simp only [Nat.zero_mul, Nat.add_zero] at v0 v1
  clear hs0' hs1' hcell hLi hat
  go_upto_region 7 with (fail)
  obtain ⟨W5, hW5⟩ : ∃ W, W4.alloc (.cells #[.int .u64 (s0 : Int), .int .u64 (s1 : Int)] 44) = W := ⟨_, rfl⟩
  have hB5 : Below W4.heap.size W4 W5 := by rw [← hW5]; exact (Below.refl _ W4).alloc (Nat.le_refl _) _
  have pS : W5.heap[W4.heap.size]? = some (.cells #[.int .u64 (s0 : Int), .int .u64 (s1 : Int)] 44) := by rw [← hW5]; exact heap_alloc_new W4 _
  rw [hW5]
  obtain ⟨bS, hbS⟩ : ∃ b, W4.heap.size = b := ⟨_, rfl⟩
  rw [hbS] at pS ⊢
  have PS := Lib.hid pS
  have HL5 := Lib.hid (HL4.out.grow hB5)
  have PH5 := Lib.hid (Grows.blk hB5 PH.out)
  have HB5 := Lib.hid (thn HB4.out hB5)
  clear pS hW5 hB5 hbS HL4 PH HB4 y0 y1 y2 lH hbL hci v0 v1 hbi
  obtain ⟨y0, y1, y2⟩ := box3 PH5.out
  have lH := lt_of PH5.out
  go_upto_region 8 with (go_at_call 19; refine (HCP.out W5 HL5.out).mono ?_; rintro e wT ⟨AT, cT, rfl, hf, hb⟩; have HFT' := Lib.hid hf; have HBT' := Lib.hid hb; clear hf hb)
  clear y0 y1 y2 lH
  obtain ⟨WT, hWT⟩ : ∃ W, wT.alloc (.cells #[.int .i64 (kk : Int), .int .i64 0, .slice AT N cT] 29) = W := ⟨_, rfl⟩
  have hBT : Below wT.heap.size wT WT := by rw [← hWT]; exact (Below.refl _ wT).alloc (Nat.le_refl _) _
  have pT : WT.heap[wT.heap.size]? = some (.cells #[.int .i64 (kk : Int), .int .i64 0, .slice AT N cT] 29) := by rw [← hWT]; exact heap_alloc_new wT _
  rw [hWT]
  obtain ⟨bT, hbT⟩ : ∃ b, wT.heap.size = b := ⟨_, rfl⟩
  have leT : W5.heap.size ≤ bT := by rw [← hbT]; exact HBT'.out.size
  rw [hbT] at pT ⊢
  have hBT2 := thn HBT'.out hBT
  have hOT := (HFT'.out.own.zone (Z' := fun b => b < bT) (fun b hb _ => by rw [← hbT]; exact hb)).grow hBT
  have gbT : ∀ b, (Value.slice AT N cT).ownBlock = some b → b < bT := fun b hb => by have := (HFT'.out.lt b hb).2; omega
  have HOT := Lib.hid hOT
  have PT := Lib.hid pT
  have HFT := Lib.hid (HFT'.out.grow hBT)
  have HBT := Lib.hid hBT2
  obtain ⟨gT, cpT, eT, glT, guT, gcT⟩ := HFT.out.own.addr (by omega)
  rw [HN.out] at eT gcT
  injection eT with e1 e2 e3
  subst e1 e3
  clear e2
  have gbT' : gT < bT := gbT gT rfl
  have PST := Lib.hid (Grows.blk hBT2 PS.out)
  clear pT hWT hBT hbT hBT2 HFT' HBT' hOT gbT
  obtain ⟨gi, ci2, t0, t1, -, t3, t4, t5, tT, t6, t7⟩ := HFT.out.at i hiL (HLP.out i hiL)
  obtain ⟨⟨u0, t8⟩, ⟨u1, t9⟩, t10, t11⟩ := t6 0 (HLP.out i hiL)
  have t12 := t7 0 (s1 + 1) s0
  rw [hn] at t0 t1
  simp only [Nat.zero_mul, Nat.zero_add] at t8 t9 t10 t11 t12
  have chT := chk_set HMD.out hiL (HLP.out i hiL) (x := (s1 + 1, s0)) (.inl (show s0 < s1 + 1 by omega))
  have nlT : (L.set i (L[i].set 0 (s1 + 1, s0))).length = N := by rw [List.length_set]; exact HN.out
  have lvT := fun k => lev_set L i 0 k (s1 + 1, s0) hiL
  obtain ⟨L1, hL1⟩ : ∃ x, L.set i (L[i].set 0 (s1 + 1, s0)) = x := ⟨_, rfl⟩
  rw [hL1] at t12 chT nlT
  simp only [hL1] at lvT
  obtain ⟨W1, hW1, hL1', hB1, hk1⟩ := odd_fin' (o := 0) HBT.out t3 t12
  have neT : bT ≠ gi := Ty.ne (T := 29) ⟨_, _, PT.out⟩ tT (by decide)
  have HW1 := Lib.hid hW1
  have HL1 := Lib.hid (HL5.out.grow hB1)
  have PH1 := Lib.hid (Grows.blk hB1 PH5.out)
  have PT1 := Lib.hid ((hk1 bT neT).trans PT.out)
  have HLT1 := Lib.hid hL1'
  have HB1 := Lib.hid (thn HB5.out hB1)
  obtain ⟨z0, z1, z2⟩ := box3 PT.out
  have lT := lt_of PT.out
  have x0 : WT.cell? ⟨bS, 0, none⟩ = some (.int .u64 (s0 : Int)) := by simp [World.cell?, PST.out]
  have x1 : WT.cell? ⟨bS, 1, none⟩ = some (.int .u64 (s1 : Int)) := by simp [World.cell?, PST.out]
  have lS := lt_of PST.out
  clear t6 t7 t12 hW1 hL1' hB1 hk1 tT
  go_region
  rw [show ((s1 : Int) + 1) = ((s1 + 1 : Nat) : Int) by omega, HW1.out]
  clear HW1 z0 z1 z2 lT x0 x1 lS t0 t1 t8 t9 t10 t11 t3 t4 t5 neT PST PS HL5 PH5 HB5 HBT HFT PT glT guT leT gcT hL1
  obtain ⟨y0, y1, y2⟩ := box3 PH1.out
  have lH := lt_of PH1.out
  go_upto_region 10 with (go_at_call 19; refine (HCP.out W1 HL1.out).mono ?_; rintro e wF ⟨AF, cF, rfl, hf, hb⟩; have HFF' := Lib.hid hf; have HBF' := Lib.hid hb; clear hf hb)
  clear y0 y1 y2 lH
  obtain ⟨WF, hWF⟩ : ∃ W, wF.alloc (.cells #[.int .i64 (kk : Int), .int .i64 0, .slice AF N cF] 29) = W := ⟨_, rfl⟩
  have hBF : Below wF.heap.size wF WF := by rw [← hWF]; exact (Below.refl _ wF).alloc (Nat.le_refl _) _
  have pF : WF.heap[wF.heap.size]? = some (.cells #[.int .i64 (kk : Int), .int .i64 0, .slice AF N cF] 29) := by rw [← hWF]; exact heap_alloc_new wF _
  rw [hWF]
  obtain ⟨bF, hbF⟩ : ∃ b, wF.heap.size = b := ⟨_, rfl⟩
  have leF : W1.heap.size ≤ bF := by rw [← hbF]; exact HBF'.out.size
  rw [hbF] at pF ⊢
  have hBF2 := thn HBF'.out hBF
  have hOF := (HFF'.out.own.zone (Z' := fun b => b < bF) (fun b hb _ => by rw [← hbF]; exact hb)).grow hBF
  have gbF : ∀ b, (Value.slice AF N cF).ownBlock = some b → b < bF := fun b hb => by have := (HFF'.out.lt b hb).2; omega
  have HOF := Lib.hid hOF
  have PF := Lib.hid pF
  have HFF := Lib.hid (HFF'.out.grow hBF)
  have HBF := Lib.hid hBF2
  obtain ⟨gF, cpF, eF, glF, guF, gcF⟩ := HFF.out.own.addr (by omega)
  rw [HN.out] at eF gcF
  injection eF with e1 e2 e3
  subst e1 e3
  clear e2
  have gbF' : gF < bF := gbF gF rfl
  have PTF := Lib.hid (Grows.blk hBF2 PT1.out)
  clear pF hWF hBF hbF hBF2 HFF' HBF' hOF gbF
  have h0L : 0 < L.length := by rw [HN.out]; exact hNp
  obtain ⟨gi, ci2, t0, t1, -, t3, t4, t5, tT, t6, t7⟩ := HFF.out.at 0 h0L (HLP.out 0 h0L)
  have hl0 := HLM.out 0 h0L
  obtain ⟨m, hm⟩ : ∃ m, L[0].length = m + 1 := ⟨L[0].length - 1, by have := HLP.out 0 h0L; omega⟩
  obtain ⟨⟨u0, t8⟩, ⟨u1, t9⟩, t10, t11⟩ := t6 m (by omega)
  have t12 := t7 m 9223372036854775808 9223372036854775808
  have chF := chk_set HMD.out h0L (j := m) (by omega) (x := (9223372036854775808, 9223372036854775808)) (.inr (by decide))
  have nlF : (L.set 0 (L[0].set m (9223372036854775808, 9223372036854775808))).length = N := by rw [List.length_set]; exact HN.out
  have lvF := fun k => lev_set L 0 m k (9223372036854775808, 9223372036854775808) h0L
  obtain ⟨L2, hL2⟩ : ∃ x, L.set 0 (L[0].set m (9223372036854775808, 9223372036854775808)) = x := ⟨_, rfl⟩
  rw [hL2] at t12 chF nlF
  simp only [hL2] at lvF
  obtain ⟨W2, hW2, hL2', hB2, hk2⟩ := odd_fin (o := m * 2) HBF.out t3 t12
  have neF : bF ≠ gi := Ty.ne (T := 29) ⟨_, _, PF.out⟩ tT (by decide)
  have neF2 : bT ≠ gi := Ty.ne (T := 29) ⟨_, _, PTF.out⟩ tT (by decide)
  have HW2 := Lib.hid hW2
  have HL2 := Lib.hid (HL1.out.grow hB2)
  have PH2 := Lib.hid (Grows.blk hB2 PH1.out)
  have PT2 := Lib.hid (Grows.blk hB2 PT1.out)
  have HLT2 := Lib.hid (HLT1.out.grow hB2)
  have PF2 := Lib.hid ((hk2 bF neF).trans PF.out)
  have HLF2 := Lib.hid hL2'
  have HB2 := Lib.hid (thn HB1.out hB2)
  obtain ⟨z0, z1, z2⟩ := box3 PF.out
  have lF := lt_of PF.out
  obtain ⟨n3, hn3⟩ : ∃ n, L[0].length = n := ⟨_, rfl⟩
  rw [hn3] at t0 t1 hl0
  have hm3 : (n3 : Int) - 1 = (m : Int) := by omega
  have hm4 : m < n3 := by omega
  have HM3 := Lib.hid hm3
  clear t6 t7 t12 hW2 hL2' hB2 hk2 tT hm hn3 hm3
  go_upto_region 11 with (fail)
  rw [HM3.out]
  go_upto_region 12 with (fail)
  have hc63 : (9223372036854775808 : Int) = ((9223372036854775808 : Nat) : Int) := rfl
  rw [show Value.int IntKind.u64 9223372036854775808 = Value.int IntKind.u64 ((9223372036854775808 : Nat) : Int) from rfl, HW2.out]
  clear HW2 hc63 HM3 z0 z1 z2 lF t0 t1 t8 t9 t10 t11 t3 t4 t5 neF neF2 PTF HL1 PH1 PT1 HLT1 HB1 HBF HFF HOF PF glF guF leF gcF hL2 hl0 hm4 gbF' gbT' HOT
  obtain ⟨y0, y1, y2⟩ := box3 PH2.out
  have lH := lt_of PH2.out
  go_upto_region 13 with (go_at_call 19; refine (HCP.out W2 HL2.out).mono ?_; rintro e wE ⟨AE, cE, rfl, hf, hb⟩; have HFE' := Lib.hid hf; have HBE' := Lib.hid hb; clear hf hb)
  clear y0 y1 y2 lH
  obtain ⟨WE, hWE⟩ : ∃ W, wE.alloc (.cells #[.int .i64 (kk : Int), .int .i64 0, .slice AE N cE] 29) = W := ⟨_, rfl⟩
  have hBE : Below wE.heap.size wE WE := by rw [← hWE]; exact (Below.refl _ wE).alloc (Nat.le_refl _) _
  have pE : WE.heap[wE.heap.size]? = some (.cells #[.int .i64 (kk : Int), .int .i64 0, .slice AE N cE] 29) := by rw [← hWE]; exact heap_alloc_new wE _
  rw [hWE]
  obtain ⟨bE, hbE⟩ : ∃ b, wE.heap.size = b := ⟨_, rfl⟩
  have leE : W2.heap.size ≤ bE := by rw [← hbE]; exact HBE'.out.size
  rw [hbE] at pE ⊢
  have hBE2 := thn HBE'.out hBE
  have hOE := (HFE'.out.own.zone (Z' := fun b => b < bE) (fun b hb _ => by rw [← hbE]; exact hb)).grow hBE
  have gbE : ∀ b, (Value.slice AE N cE).ownBlock = some b → b < bE := fun b hb => by have := (HFE'.out.lt b hb).2; omega
  have HOE := Lib.hid hOE
  have PE := Lib.hid pE
  have HFE := Lib.hid (HFE'.out.grow hBE)
  have HBE := Lib.hid hBE2
  obtain ⟨gE, cpE, eE, glE, guE, gcE⟩ := HFE.out.own.addr (by omega)
  rw [HN.out] at eE gcE
  injection eE with e1 e2 e3
  subst e1 e3
  clear e2
  have gbE' : gE < bE := gbE gE rfl
  clear pE hWE hBE hbE hBE2 HFE' HBE' hOE gbE
  obtain ⟨z0, z1, z2⟩ := box3 PE.out
  have lE := lt_of PE.out
  have chE := chk_empty HMD.out
  have lvE : ∀ k, (lev (L ++ [[]]) k).length ≤ 1026 := fun k => by
    rcases Nat.lt_or_ge k L.length with h | h
    · have := HLM.out k h
      unfold lev
      rw [List.getElem?_append_left h, List.getElem?_eq_getElem h]
      exact this
    · unfold lev
      rw [List.getElem?_append_right h]
      cases hk : k - L.length with
      | zero => simp
      | succ d => simp
  have hlE : (L ++ [[]]).length = N + 1 := by rw [List.length_append, HN.out]; rfl
  have hbE : W2.heap.size ≤ WE.heap.size := HBE.out.size
  have hLl : L.length ≤ 1000000 := by rw [HN.out]; omega
  obtain ⟨L3, hL3⟩ : ∃ x, L ++ [[]] = x := ⟨_, rfl⟩
  rw [hL3] at chE hlE
  simp only [hL3] at lvE
  have HL3' := Lib.hid hL3
  clear hL3
  go_upto_region 14 with (at_builtin; refine wpList_lev _ 24 info_row Try.underlying22 rfl (by decide) WE rfl _ _ rfl W2.heap.size _ (.slice none 0 0) L [] rfl HOE.out WE.heap.size rfl rfl (Lies.nil _ _ (by unfold maxLen; omega)) (fun h => absurd rfl h) hLl hbE ?_; intro v' w3 ho3 hq3 hg3; rw [HL3'.out] at ho3; have hne3 : v'.ownBlock ≠ some bE := (fun e => by rcases hq3 with q | q; (rw [q] at e; injection e with e; have e : gE = bE := e; omega); (rw [q] at e; injection e with e; omega)); have p3 := (hg3.block bE (by simp; omega) (fun e => by injection e with e; have e : bE = gE := e; omega)).trans ((Below.heap_alloc _ _ _ lE).trans PE.out); have b3 : Below W2.heap.size W2 w3 := (HBE.out.alloc (by omega) _).grown hg3 (by simp; omega) (fun x e => by injection e with e; have e : gE = x := e; omega); obtain ⟨A3, c3, e3, -, -⟩ := ho3.form; rw [hlE] at e3; obtain ⟨N3, hN3⟩ : ∃ x, N + 1 = x := ⟨_, rfl⟩; rw [hN3] at e3; subst e3; obtain ⟨i0, i1, i2⟩ := box3 p3; have f2 : w3.frozen? ⟨bE, 2, none⟩ = false := (by simp [World.frozen?, p3]); have l3 := lt_of p3; have HO3 := Lib.hid ho3; have P3 := Lib.hid p3; have HB3 := Lib.hid b3; have HNE3 := Lib.hid hne3; have HN3 := Lib.hid hN3; clear ho3 hq3 hg3 p3 b3 hne3 hN3)
  have o3 := HO3.out.off (grown_set w3 bE 2 (.slice A3 N3 c3)) HNE3.out (fun b hb => by have hb : b < bE := hb; omega)
  have hB3 := HB3.out.setCell (p := ⟨bE, 2, none⟩) leE (.slice A3 N3 c3)
  have p3 := set1 (o := 2) (.slice A3 N3 c3) P3.out
  have p3' : (w3.setCell ⟨bE, 2, none⟩ (.slice A3 N3 c3)).heap[bE]? = some (.cells #[.int .i64 (kk : Int), .int .i64 0, .slice A3 N3 c3] 29) := p3
  obtain ⟨W3, hW3⟩ : ∃ W, w3.setCell ⟨bE, 2, none⟩ (.slice A3 N3 c3) = W := ⟨_, rfl⟩
  rw [hW3] at o3 hB3 p3' ⊢
  have HLE3 := Lib.hid o3.levs
  have PE3 := Lib.hid p3'
  have HL3 := Lib.hid (HL2.out.grow hB3)
  have PH3 := Lib.hid (Grows.blk hB3 PH2.out)
  have PT3 := Lib.hid (Grows.blk hB3 PT2.out)
  have HLT3 := Lib.hid (HLT2.out.grow hB3)
  have PF3 := Lib.hid (Grows.blk hB3 PF2.out)
  have HLF3 := Lib.hid (HLF2.out.grow hB3)
  have HBW3 := Lib.hid (thn HB2.out hB3)
  clear o3 hB3 p3 p3' hW3 z0 z1 z2 lE hbE hLl HO3 P3 HB3 HNE3 i0 i1 i2 f2 l3 HL2 PH2 PT2 HLT2 PF2 HLF2 HB2 HFE HOE HBE PE glE guE leE gcE gbE' HL3'
  obtain ⟨y0, y1, y2⟩ := box3 PH3.out
  have lH := lt_of PH3.out
  go_upto_region 15 with (go_at_call 19; refine (HCP.out W3 HL3.out).mono ?_; rintro e wO ⟨AO, cO, rfl, hf, hb⟩; have HFO' := Lib.hid hf; have HBO' := Lib.hid hb; clear hf hb)
  clear y0 y1 y2 lH
  obtain ⟨WO, hWO⟩ : ∃ W, wO.alloc (.cells #[.int .i64 (kk : Int), .int .i64 0, .slice AO N cO] 29) = W := ⟨_, rfl⟩
  have hBO : Below wO.heap.size wO WO := by rw [← hWO]; exact (Below.refl _ wO).alloc (Nat.le_refl _) _
  have pO : WO.heap[wO.heap.size]? = some (.cells #[.int .i64 (kk : Int), .int .i64 0, .slice AO N cO] 29) := by rw [← hWO]; exact heap_alloc_new wO _
  rw [hWO]
  obtain ⟨bO, hbO⟩ : ∃ b, wO.heap.size = b := ⟨_, rfl⟩
  have leO : W3.heap.size ≤ bO := by rw [← hbO]; exact HBO'.out.size
  rw [hbO] at pO ⊢
  have hBO2 := thn HBO'.out hBO
  have hOO := (HFO'.out.own.zone (Z' := fun b => b < bO) (fun b hb _ => by rw [← hbO]; exact hb)).grow hBO
  have gbO : ∀ b, (Value.slice AO N cO).ownBlock = some b → b < bO := fun b hb => by have := (HFO'.out.lt b hb).2; omega
  have HOO := Lib.hid hOO
  have PO := Lib.hid pO
  have HFO := Lib.hid (HFO'.out.grow hBO)
  have HBO := Lib.hid hBO2
  obtain ⟨gO, cpO, eO, glO, guO, gcO⟩ := HFO.out.own.addr (by omega)
  rw [HN.out] at eO gcO
  injection eO with e1 e2 e3
  subst e1 e3
  clear e2
  have gbO' : gO < bO := gbO gO rfl
  clear pO hWO hBO hbO hBO2 HFO' HBO' hOO gbO
  obtain ⟨M, hM⟩ : ∃ M, N = M + 1 := ⟨N - 1, by omega⟩
  have hML : L.length = M + 1 := by rw [HN.out]; exact hM
  have hMl : M < L.length := by omega
  have hMN : M < N := by omega
  have hM3 : (N : Int) - 1 = (M : Int) := by omega
  have HM3 := Lib.hid hM3
  obtain ⟨Ai, ci2, t0, t1, -, hLi, hz⟩ := own_at HOO.out M hMl
  have hp0 := HLP.out M hMl
  have hl0 := HLM.out M hMl
  have hset := set_last hML (L[M].drop 1)
  have hold := HMD.out.old (by intro e; rw [e] at hML; simp at hML)
  have hoo : oldOf L = if L[M].length ≤ 1 then L.take M else L.take M ++ [L[M].drop 1] := by
    unfold oldOf
    rw [show L.length - 1 = M by omega, lev_lt hMl]
  have hdr := fun A' => hLi.drop 1 (by omega) A'
  obtain ⟨l, hl⟩ : ∃ l, L[M] = l := ⟨_, rfl⟩
  rw [hl] at t0 t1 hLi hz hp0 hl0 hset hoo
  simp only [hl] at hdr
  obtain ⟨q, hq⟩ : ∃ q, l.length = q + 1 := ⟨l.length - 1, by omega⟩
  rw [hq] at t0 t1 hl0 hoo
  simp only [hq, show q + 1 - 1 = q by omega] at hdr
  have hzz := hz (fun e => by rw [e] at hp0; simp at hp0)
  obtain ⟨gt, ot, rfl, hgt, -, -⟩ := sp_at hLi hp0
  obtain ⟨⟨u0, -⟩, f0⟩ := HOO.out.cell M hMl
  obtain ⟨z0, z1, z2⟩ := box3 PO.out
  have lO := lt_of PO.out
  have fO : ∀ i, WO.frozen? ⟨bO, i, none⟩ = false := fun i => by simp [World.frozen?, PO.out]
  have gt2 := (hzz gt rfl)
  have HDR := Lib.hid hdr
  have HZZ := Lib.hid hzz
  have HSET := Lib.hid hset
  have HOLD := Lib.hid hold
  have HOO2 := Lib.hid hoo
  have HML := Lib.hid hML
  clear hM hM3 hML hLi hz hp0 hset hold hoo hdr hl hq hzz gt2
  go_upto_region 16 with (fail)
  rw [HM3.out]
  go_region
  obtain ⟨A', hA'⟩ : ∃ A', (if ci2 = 1 then some (⟨gt, ot, none⟩ : Addr) else some ⟨gt, ot + 2, none⟩) = A' := ⟨_, rfl⟩
  rw [hA']
  have hL4 := HDR.out A' (by
    intro b off e h1
    injection e with e
    injection e with e1 e2
    subst e1 e2
    rw [← hA', if_neg (by omega)]
    rfl)
  have hob : ∀ b, (Value.slice A' q (ci2 - 1)).ownBlock = some b → b = gt := by
    intro b hb
    rw [← hA'] at hb
    split at hb <;> (injection hb with hb; exact hb.symm)
  obtain ⟨r1, r2⟩ := HOO.out.set M hL4 (fun _ b hb => by rw [hob b hb]; exact HZZ.out gt rfl)
  rw [HSET.out] at r1
  have r3 := r1.grow (Below.refl _ _).drew
  have hB5 : Below W3.heap.size W3 (WO.setCell ⟨gO, M, none⟩ (.slice A' q (ci2 - 1))).drew := (HBO.out.setCell (p := ⟨gO, M, none⟩) glO _).drew
  have hbg : bO ≠ gO := by omega
  have p5 : (WO.setCell ⟨gO, M, none⟩ (.slice A' q (ci2 - 1))).drew.heap[bO]? = some (.cells #[.int .i64 (kk : Int), .int .i64 0, .slice (some ⟨gO, 0, none⟩) N cO] 29) := (Below.heap_setCell WO ⟨gO, M, none⟩ (.slice A' q (ci2 - 1)) bO (by simpa using hbg)).trans PO.out
  have R3 := Lib.hid r3
  have HB5 := Lib.hid hB5
  have P5 := Lib.hid p5
  have hgl : bO < WO.heap.size := lO
  clear r1 r2 r3 hB5 p5 hL4 hob hA' HDR HZZ HOO HBO HFO HSET HM3
  by_cases hq0 : q = 0
  · subst hq0
    have r4 := own_take R3.out M (by rw [List.length_append, List.length_take]; have := HML.out; simp; omega)
    rw [List.take_append_of_le_length (by rw [List.length_take]; have := HML.out; omega), List.take_take, Nat.min_self] at r4
    have r5 := r4.off (grown_set _ bO 2 (.slice (some ⟨gO, 0, none⟩) M cO)) (fun e => by injection e with e; exact hbg e.symm) (fun b hb => by have hb : b < bO := hb; omega)
    have hB6 := HB5.out.setCell (p := ⟨bO, 2, none⟩) leO (.slice (some ⟨gO, 0, none⟩) M cO)
    have p6 := set1 (o := 2) (.slice (some ⟨gO, 0, none⟩) M cO) P5.out
    have ho := HOO2.out
    rw [if_pos (by omega)] at ho
    have hnl : (L.take M).length = M := by rw [List.length_take]; have := HML.out; omega
    obtain ⟨L4, hL4⟩ : ∃ x, L.take M = x := ⟨_, rfl⟩
    rw [hL4] at r5 ho hnl
    have hmd4 := HOLD.out
    rw [ho] at hmd4
    have HLV4 := Lib.hid r5.levs
    have HB6' := Lib.hid hB6
    have P6' := Lib.hid p6
    have HNL := Lib.hid hnl
    have HMD4 := Lib.hid hmd4
    clear r4 r5 hB6 p6 ho hnl hL4 hmd4
    go_upto_region 19 with (fail)
    obtain ⟨W6, hW6⟩ : ∃ W, ((WO.setCell ⟨gO, M, none⟩ (.slice A' 0 (ci2 - 1))).drew).setCell ⟨bO, 2, none⟩ (.slice (some ⟨gO, 0, none⟩) M cO) = W := ⟨_, rfl⟩
    have hB6 := HB6'.out
    have p6 : ((WO.setCell ⟨gO, M, none⟩ (.slice A' 0 (ci2 - 1))).drew.setCell ⟨bO, 2, none⟩ (.slice (some ⟨gO, 0, none⟩) M cO)).heap[bO]? = some (.cells #[.int .i64 (kk : Int), .int .i64 0, .slice (some ⟨gO, 0, none⟩) M cO] 29) := P6'.out
    have hLV := HLV4.out
    rw [hW6] at hB6 p6 hLV
    rw [show ((WO.setCell ⟨gO, M, none⟩ (.slice A' 0 (ci2 - 1))).setCell ⟨bO, 2, none⟩ (.slice (some ⟨gO, 0, none⟩) M cO)).drew = W6 from hW6]
    clear hW6 HB6' P6' HLV4
    have HBC := Lib.hid (Below.refl W6.heap.size W6)
    have HB6 := Lib.hid (thn HBW3.out hB6)
    have PT6 := Lib.hid (Grows.blk hB6 PT3.out)
    have PF6 := Lib.hid (Grows.blk hB6 PF3.out)
    have PE6 := Lib.hid (Grows.blk hB6 PE3.out)
    have PO6 := Lib.hid p6
    have chO : chk (kk : Int) 0 L4 = 0 := HMD4.out.1.chk fun x hx => by have := HMAX.out x (HMD4.out.2 x hx); omega
    have CT' : ∀ W : World, Below W6.heap.size W6 W → Calls Try.prog 10 #[.agg #[.int .i64 (kk : Int), .int .i64 0, .slice (some ⟨gT, 0, none⟩) N cT]] W fun e w' => e = .returned (.int .i64 2) ∧ Below W.heap.size W w' := by
      intro W hW
      have := hist_any (kk : Int) 0 L1 (by rw [nlT]; have := HN3.out; omega) (fun i => by have := lvT i; have := HMD.out.lev i; omega) W (some ⟨gT, 0, none⟩) cT (by rw [nlT]; exact ((HLT3.out.grow hB6).grow hW).reads)
      rw [chT, nlT] at this
      exact this
    have CT := Lib.hid CT'
    clear CT'
    have CF' : ∀ W : World, Below W6.heap.size W6 W → Calls Try.prog 10 #[.agg #[.int .i64 (kk : Int), .int .i64 0, .slice (some ⟨gF, 0, none⟩) N cF]] W fun e w' => e = .returned (.int .i64 2) ∧ Below W.heap.size W w' := by
      intro W hW
      have := hist_any (kk : Int) 0 L2 (by rw [nlF]; have := HN3.out; omega) (fun i => by have := lvF i; have := HMD.out.lev i; omega) W (some ⟨gF, 0, none⟩) cF (by rw [nlF]; exact ((HLF3.out.grow hB6).grow hW).reads)
      rw [chF, nlF] at this
      exact this
    have CF := Lib.hid CF'
    clear CF'
    have CE' : ∀ W : World, Below W6.heap.size W6 W → Calls Try.prog 10 #[.agg #[.int .i64 (kk : Int), .int .i64 0, .slice A3 N3 c3]] W fun e w' => e = .returned (.int .i64 2) ∧ Below W.heap.size W w' := by
      intro W hW
      have := hist_any (kk : Int) 0 L3 (by rw [hlE.trans HN3.out]; have := HN3.out; omega) (fun i => by have := lvE i; omega) W A3 c3 (by rw [hlE.trans HN3.out]; exact ((HLE3.out.grow hB6).grow hW).reads)
      rw [chE, hlE.trans HN3.out] at this
      exact this
    have CE := Lib.hid CE'
    clear CE'
    have CO' : ∀ W : World, Below W6.heap.size W6 W → Calls Try.prog 10 #[.agg #[.int .i64 (kk : Int), .int .i64 0, .slice (some ⟨gO, 0, none⟩) M cO]] W fun e w' => e = .returned (.int .i64 0) ∧ Below W.heap.size W w' := by
      intro W hW
      have := hist_any (kk : Int) 0 L4 (by rw [HNL.out]; have := HN3.out; omega) (fun i => by have := HMD4.out.1.lev i; omega) W (some ⟨gO, 0, none⟩) cO (by rw [HNL.out]; exact (hLV.grow hW).reads)
      rw [chO, HNL.out] at this
      exact this
    have CO := Lib.hid CO'
    clear CO'
    clear hB6 p6 hLV
    obtain ⟨z0, z1, z2⟩ := box3 PT6.out
    have lT := lt_of PT6.out
    clear R3 HOLD HOO2 HML HNL HMD4 HLT3 HLF3 HLE3 HBW3 chT chF chE chO lvT lvF lvE nlT nlF hlE PT3 PF3 PE3 HL3 PH3 z0 z1 z2 lO fO t0 t1 f0 hgt
    obtain ⟨z0, z1, z2⟩ := box3 PT6.out
    go_wp2_with (first
      | (go_at_call 11; refine (lmade_any _ _ _ _ _ _).mono ?_; rintro e wn ⟨rfl, hb⟩; replace HBC := Lib.hid (thn HBC.out hb); clear hb)
      | (go_at_call 10; (with_reducible refine (CT.out _ HBC.out).mono ?_); rintro e wn ⟨rfl, hb⟩; replace HBC := Lib.hid (thn HBC.out hb); clear hb; obtain ⟨f0, f1, f2⟩ := box3 (Grows.blk HBC.out PF6.out); obtain ⟨g0, g1, g2⟩ := box3 (Grows.blk HBC.out PE6.out); obtain ⟨h0, h1, h2⟩ := box3 (Grows.blk HBC.out PO6.out); have lF := lt_of (Grows.blk HBC.out PF6.out); have lE := lt_of (Grows.blk HBC.out PE6.out); have lO := lt_of (Grows.blk HBC.out PO6.out))
      | (go_at_call 10; (with_reducible refine (CF.out _ HBC.out).mono ?_); rintro e wn ⟨rfl, hb⟩; replace HBC := Lib.hid (thn HBC.out hb); clear hb; obtain ⟨f0, f1, f2⟩ := box3 (Grows.blk HBC.out PF6.out); obtain ⟨g0, g1, g2⟩ := box3 (Grows.blk HBC.out PE6.out); obtain ⟨h0, h1, h2⟩ := box3 (Grows.blk HBC.out PO6.out); have lF := lt_of (Grows.blk HBC.out PF6.out); have lE := lt_of (Grows.blk HBC.out PE6.out); have lO := lt_of (Grows.blk HBC.out PO6.out))
      | (go_at_call 10; (with_reducible refine (CE.out _ HBC.out).mono ?_); rintro e wn ⟨rfl, hb⟩; replace HBC := Lib.hid (thn HBC.out hb); clear hb; obtain ⟨f0, f1, f2⟩ := box3 (Grows.blk HBC.out PF6.out); obtain ⟨g0, g1, g2⟩ := box3 (Grows.blk HBC.out PE6.out); obtain ⟨h0, h1, h2⟩ := box3 (Grows.blk HBC.out PO6.out); have lF := lt_of (Grows.blk HBC.out PF6.out); have lE := lt_of (Grows.blk HBC.out PE6.out); have lO := lt_of (Grows.blk HBC.out PO6.out))
      | (go_at_call 10; (with_reducible refine (CO.out _ HBC.out).mono ?_); rintro e wn ⟨rfl, hb⟩; replace HBC := Lib.hid (thn HBC.out hb); clear hb; obtain ⟨f0, f1, f2⟩ := box3 (Grows.blk HBC.out PF6.out); obtain ⟨g0, g1, g2⟩ := box3 (Grows.blk HBC.out PE6.out); obtain ⟨h0, h1, h2⟩ := box3 (Grows.blk HBC.out PO6.out); have lF := lt_of (Grows.blk HBC.out PF6.out); have lE := lt_of (Grows.blk HBC.out PE6.out); have lO := lt_of (Grows.blk HBC.out PO6.out)))
    go_ret
    exact ⟨rfl, thn HB6.out HBC.out⟩
  · have ho := HOO2.out
    rw [if_neg (by omega)] at ho
    have hnl : (L.take M ++ [l.drop 1]).length = N := by rw [List.length_append, List.length_take]; have := HML.out; have := HN.out; simp; omega
    obtain ⟨L4, hL4⟩ : ∃ x, L.take M ++ [l.drop 1] = x := ⟨_, rfl⟩
    have r5 := R3.out
    rw [hL4] at r5 ho hnl
    have hmd4 := HOLD.out
    rw [ho] at hmd4
    have HLV4 := Lib.hid r5.levs
    have HNL := Lib.hid hnl
    have HMD4 := Lib.hid hmd4
    clear r5 ho hnl hL4 hmd4
    have hqp : decide ((q : Int) = 0) = false := by simp; omega
    go_upto_region 19 with (fail)
    obtain ⟨W6, hW6⟩ : ∃ W, (WO.setCell ⟨gO, M, none⟩ (.slice A' q (ci2 - 1))).drew = W := ⟨_, rfl⟩
    have hB6 := HB5.out
    have p6 := P5.out
    have hLV := HLV4.out
    rw [hW6] at hB6 p6 hLV
    rw [hW6]
    clear hW6 HLV4 P5 HB5
    have HBC := Lib.hid (Below.refl W6.heap.size W6)
    have HB6 := Lib.hid (thn HBW3.out hB6)
    have PT6 := Lib.hid (Grows.blk hB6 PT3.out)
    have PF6 := Lib.hid (Grows.blk hB6 PF3.out)
    have PE6 := Lib.hid (Grows.blk hB6 PE3.out)
    have PO6 := Lib.hid p6
    have chO : chk (kk : Int) 0 L4 = 0 := HMD4.out.1.chk fun x hx => by have := HMAX.out x (HMD4.out.2 x hx); omega
    have CT' : ∀ W : World, Below W6.heap.size W6 W → Calls Try.prog 10 #[.agg #[.int .i64 (kk : Int), .int .i64 0, .slice (some ⟨gT, 0, none⟩) N cT]] W fun e w' => e = .returned (.int .i64 2) ∧ Below W.heap.size W w' := by
      intro W hW
      have := hist_any (kk : Int) 0 L1 (by rw [nlT]; have := HN3.out; omega) (fun i => by have := lvT i; have := HMD.out.lev i; omega) W (some ⟨gT, 0, none⟩) cT (by rw [nlT]; exact ((HLT3.out.grow hB6).grow hW).reads)
      rw [chT, nlT] at this
      exact this
    have CT := Lib.hid CT'
    clear CT'
    have CF' : ∀ W : World, Below W6.heap.size W6 W → Calls Try.prog 10 #[.agg #[.int .i64 (kk : Int), .int .i64 0, .slice (some ⟨gF, 0, none⟩) N cF]] W fun e w' => e = .returned (.int .i64 2) ∧ Below W.heap.size W w' := by
      intro W hW
      have := hist_any (kk : Int) 0 L2 (by rw [nlF]; have := HN3.out; omega) (fun i => by have := lvF i; have := HMD.out.lev i; omega) W (some ⟨gF, 0, none⟩) cF (by rw [nlF]; exact ((HLF3.out.grow hB6).grow hW).reads)
      rw [chF, nlF] at this
      exact this
    have CF := Lib.hid CF'
    clear CF'
    have CE' : ∀ W : World, Below W6.heap.size W6 W → Calls Try.prog 10 #[.agg #[.int .i64 (kk : Int), .int .i64 0, .slice A3 N3 c3]] W fun e w' => e = .returned (.int .i64 2) ∧ Below W.heap.size W w' := by
      intro W hW
      have := hist_any (kk : Int) 0 L3 (by rw [hlE.trans HN3.out]; have := HN3.out; omega) (fun i => by have := lvE i; omega) W A3 c3 (by rw [hlE.trans HN3.out]; exact ((HLE3.out.grow hB6).grow hW).reads)
      rw [chE, hlE.trans HN3.out] at this
      exact this
    have CE := Lib.hid CE'
    clear CE'
    have CO' : ∀ W : World, Below W6.heap.size W6 W → Calls Try.prog 10 #[.agg #[.int .i64 (kk : Int), .int .i64 0, .slice (some ⟨gO, 0, none⟩) N cO]] W fun e w' => e = .returned (.int .i64 0) ∧ Below W.heap.size W w' := by
      intro W hW
      have := hist_any (kk : Int) 0 L4 (by rw [HNL.out]; have := HN3.out; omega) (fun i => by have := HMD4.out.1.lev i; omega) W (some ⟨gO, 0, none⟩) cO (by rw [HNL.out]; exact (hLV.grow hW).reads)
      rw [chO, HNL.out] at this
      exact this
    have CO := Lib.hid CO'
    clear CO'
    clear hB6 p6 hLV
    obtain ⟨z0, z1, z2⟩ := box3 PT6.out
    have lT := lt_of PT6.out
    clear R3 HOLD HOO2 HML HNL HMD4 HLT3 HLF3 HLE3 HBW3 chT chF chE chO lvT lvF lvE nlT nlF hlE PT3 PF3 PE3 HL3 PH3 z0 z1 z2 lO fO t0 t1 f0 hgt
    obtain ⟨z0, z1, z2⟩ := box3 PT6.out
    go_wp2_with (first
      | (go_at_call 11; refine (lmade_any _ _ _ _ _ _).mono ?_; rintro e wn ⟨rfl, hb⟩; replace HBC := Lib.hid (thn HBC.out hb); clear hb)
      | (go_at_call 10; (with_reducible refine (CT.out _ HBC.out).mono ?_); rintro e wn ⟨rfl, hb⟩; replace HBC := Lib.hid (thn HBC.out hb); clear hb; obtain ⟨f0, f1, f2⟩ := box3 (Grows.blk HBC.out PF6.out); obtain ⟨g0, g1, g2⟩ := box3 (Grows.blk HBC.out PE6.out); obtain ⟨h0, h1, h2⟩ := box3 (Grows.blk HBC.out PO6.out); have lF := lt_of (Grows.blk HBC.out PF6.out); have lE := lt_of (Grows.blk HBC.out PE6.out); have lO := lt_of (Grows.blk HBC.out PO6.out))
      | (go_at_call 10; (with_reducible refine (CF.out _ HBC.out).mono ?_); rintro e wn ⟨rfl, hb⟩; replace HBC := Lib.hid (thn HBC.out hb); clear hb; obtain ⟨f0, f1, f2⟩ := box3 (Grows.blk HBC.out PF6.out); obtain ⟨g0, g1, g2⟩ := box3 (Grows.blk HBC.out PE6.out); obtain ⟨h0, h1, h2⟩ := box3 (Grows.blk HBC.out PO6.out); have lF := lt_of (Grows.blk HBC.out PF6.out); have lE := lt_of (Grows.blk HBC.out PE6.out); have lO := lt_of (Grows.blk HBC.out PO6.out))
      | (go_at_call 10; (with_reducible refine (CE.out _ HBC.out).mono ?_); rintro e wn ⟨rfl, hb⟩; replace HBC := Lib.hid (thn HBC.out hb); clear hb; obtain ⟨f0, f1, f2⟩ := box3 (Grows.blk HBC.out PF6.out); obtain ⟨g0, g1, g2⟩ := box3 (Grows.blk HBC.out PE6.out); obtain ⟨h0, h1, h2⟩ := box3 (Grows.blk HBC.out PO6.out); have lF := lt_of (Grows.blk HBC.out PF6.out); have lE := lt_of (Grows.blk HBC.out PE6.out); have lO := lt_of (Grows.blk HBC.out PO6.out))
      | (go_at_call 10; (with_reducible refine (CO.out _ HBC.out).mono ?_); rintro e wn ⟨rfl, hb⟩; replace HBC := Lib.hid (thn HBC.out hb); clear hb; obtain ⟨f0, f1, f2⟩ := box3 (Grows.blk HBC.out PF6.out); obtain ⟨g0, g1, g2⟩ := box3 (Grows.blk HBC.out PE6.out); obtain ⟨h0, h1, h2⟩ := box3 (Grows.blk HBC.out PO6.out); have lF := lt_of (Grows.blk HBC.out PF6.out); have lE := lt_of (Grows.blk HBC.out PE6.out); have lO := lt_of (Grows.blk HBC.out PO6.out)))
    go_ret
    exact ⟨rfl, thn HB6.out HBC.out⟩

set_option maxRecDepth 100000 in
theorem lifted (os : Os) (started : os.Started) (H : Type) (enc : TypeId × Value → H) :
    ReturnsInHanded {} Try.checked os 5 .any (Rows.checkOddSpec.pre6 enc Try.prog Try.f5 Rows.checkOddRow.domain false) (Rows.checkOddSpec.post enc Try.prog Try.f5 false true false false) := by
  refine returnsInHanded_of_change (C := Try.checked) own started (by kernel_rfl) Try.func5
    (ChangeSpec.witness6 (enc := enc) (C := Try.checked) false ⟨#[], #[.int .i64 0, .slice none 0 0, .int .u8 0], []⟩ 8 (by kernel_rfl) (by kernel_rfl) (by kernel_rfl) (by kernel_rfl)) ?_
  intro W base args ds gs before hval0 hW hcnd _
  have hval : ∀ (j : Nat) t v, Try.f5.params[j]? = some t → args[j]? = some v → Value.okWide Try.prog W .any base t v := hval0
  have hW' := hW
  obtain ⟨p, q, hA0, hV, rfl, hfz, hnd⟩ := hW
  have hA : DataW.TrodAll enc Try.prog W 0 (fun _ => true) true Try.f5.params.toList args.toList ds p := hA0
  rw [Try.params5] at hA hval
  obtain ⟨v0, vs0, d0, ds0, p0, q0, hargs, rfl, rfl, h0, r0⟩ := trodAll_cons hA
  obtain ⟨v1, vs1, d1, ds1, p1, q1, rfl, rfl, rfl, h1, r1⟩ := trodAll_cons r0
  obtain ⟨v2, vs2, d2, ds2, p2, q2, rfl, rfl, rfl, h2, r2⟩ := trodAll_cons r1
  obtain ⟨rfl, rfl, rfl⟩ := trodAll_nil r2
  obtain rfl : args = #[v0, v1, v2] := by cases args; simp_all
  obtain ⟨rfl, rfl⟩ := trodVars_none hV
  obtain ⟨a0, rfl, rfl, rfl, w0⟩ := open_int Try.underlying3 (hval 0 3 v0 rfl rfl) h0
  obtain ⟨a1, len1, cap1, rfl⟩ := okWide_slice Try.underlying38 (hval 1 38 v1 rfl rfl)
  have k1 := h1
  have lt1 : ∀ x ∈ p1, x.block < W.heap.size := by obtain ⟨m, hm⟩ := k1; exact DataW.trod_lt m _ _ _ hm
  obtain ⟨z1, w1⟩ := Op.open_flats (f := 9) (ks := [.u64, .u64]) Try.underlying38 (by kernel_rfl) (by kernel_rfl) (by decide) h1
  obtain ⟨a2, rfl, rfl, rfl, w2⟩ := open_int Try.underlying5 (hval 2 5 v2 rfl rfl) h2
  clear hA0 hval0
  refine (walk a0 a1 len1 cap1 z1 a2 W w0 w1 w2).mono fun e W' ⟨he, bel⟩ => ?_
  subst he
  exact ⟨_, rfl, _, _, _, [], _, [], hW', trodAll_mk1 (shut_bool Try.underlying4 _), (trodAll_cons_mk (shut_int Try.underlying3 w0) (trodAll_cons_mk (Below.trod laidOut (by kernel_rfl) (of_decide_eq_true (by kernel_rfl)) k1 bel lt1) (trodAll_cons_mk (shut_int Try.underlying5 w2) trodAll_mk0))), rfl, bel.frame _, fun h => by cases h⟩

theorem over : Rows.checkOddRow.holds Try.pinned (OpenSpec.ofChange Rows.checkOddSpec) :=
  OpenClaim.holds_of_wide 5 Try.f5 rfl rfl rfl rfl rfl rfl rfl ⟨rfl, rfl, rfl, rfl, rfl⟩ rfl rfl rfl rfl rfl (by kernel_rfl) Try.func5 (by kernel_rfl)
    (of_decide_eq_true (by kernel_rfl)) (by unfold Func.isWrapper; first | (rw [if_pos (by decide +kernel)]; kernel_rfl) | (rw [if_neg (by decide +kernel)]; exact ⟨rfl, rfl⟩))
    (fun os started H enc _ => lifted os started H enc)

/-- The statement. -/
theorem proved : Rows.CheckOddSaid := over
#print axioms proved
end Go.Proofs.Ytoplbjanemjebaa.checkOdd
