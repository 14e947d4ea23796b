/-
  'skylight/skylightlaw06.HistUnits' returns true for every input, and the input reads afterwards as it read before. Conditions: none.
-/
import Derived.Test.YtimlmaincblkoaaRows
import Derived.WalkKit
import Derived.ProofKit
import Derived.OpenShut
import Derived.ShutString
import Derived.ChangeOld
import Derived.Below
import Derived.Test.YtimlmaincblkoaaOpen
import Derived.Test.YtimlmaincblkoaaHPlayed
import Derived.Test.YtimlmaincblkoaaHAwk
import Derived.Test.YtimlmaincblkoaaHUnit
namespace Go.Proofs.Ytimlmaincblkoaa.histUnits
open Go.Proofs Go.Proofs.Rn Go.Proofs.Lm Go.Proofs.Op Go.Proofs.Rw Go.Proofs.Lh Go.Proofs.Rf
open Go.ChangeShapes Go.WideShapes Go.ChangeAt Go.RowKit
open Go.ChangeMaps (open_string shut_string)
set_option linter.unusedVariables false

theorem own : ownKnob Try.prog.godebug = none := by kernel_rfl
theorem laidOut : laidOutB Try.prog = true := by kernel_rfl

/-- A slice of integers that came in: nil, or a row of cells of its capacity, each fitting its kind. -/
def IsRow (k : IntKind) (w : World) (a : Option Addr) (len cap : Nat) (zs : List Int) : Prop :=
  (a = none ∧ len = 0 ∧ cap = 0 ∧ zs = []) ∨
  ∃ x, a = some x ∧ len ≤ cap ∧ cap ≤ maxLen ∧ zs.length = cap ∧ (∀ i, i < zs.length → w.cell? (x.add i) = some (.int k (zs.getD i 0))) ∧ ∀ n ∈ zs, (Lit.int k n).wf = true

theorem fit2_of {c : List Value} (h : Op.Fits [.u64, .u64] c) : ∃ x0 x1 : Int, c = [.int .u64 x0, .int .u64 x1] ∧ (Lit.int .u64 x0).wf = true ∧ (Lit.int .u64 x1).wf = true := by
  cases c with
  | nil => exact h.elim
  | cons y0 c =>
  have g0 := h.1
  replace h := h.2
  cases c with
  | nil => exact h.elim
  | cons y1 c =>
  have g1 := h.1
  replace h := h.2
  cases c with
  | cons y c => exact h.elim
  | nil =>
  obtain ⟨x0, e0, e0w⟩ := g0
  obtain ⟨x1, e1, e1w⟩ := g1
  exact ⟨x0, x1, by rw [e0, e1], e0w, e1w⟩

open Go.RowKit Go.Shelf Go.Proofs.Rw Go.Proofs.Lh Go.Proofs.Rf
theorem addW_zero {k : Nat} {L : Lv} (h : Made k L) (t : Nat) : addW k L t 0 = L := addL_none k L 0 h.few
theorem made_addW {k : Nat} {L : Lv} (h : Made k L) {t j : Nat} (hl : ∀ last, lastOf L = some last → last ≤ t) (hs : tot L + j ≤ 4503599627370496) : Made k (addW k L t j) :=
  ⟨h.k2, h.k1, h.ok.add (by have := h.k2; omega) t j hl, by rw [addW_tot]; exact hs⟩
theorem last_le {L : Lv} {t : Nat} (h : (lastOf L).getD 0 ≤ t) : ∀ last, lastOf L = some last → last ≤ t := fun last e => by rw [e] at h; exact h
theorem code_unit {L : Lv} {t n : Nat} (hn : 1 ≤ n) (hn2 : n ≤ 60) (ht : t ≤ 1000000) (hl : (lastOf L).getD 0 ≤ t) : (code L t n = 0 ∧ tot L + n ≤ 4503599627370496) ∨ (code L t n = 5 ∧ 4503599627370496 < tot L + n) := by
  unfold code
  rw [if_neg (by omega), if_neg (by omega)]
  by_cases h : 4503599627370496 < n ∨ 4503599627370496 < n + tot L
  · rw [if_pos h]
    exact .inr ⟨rfl, by omega⟩
  · rw [if_neg h]
    exact .inl ⟨rfl, by omega⟩

set_option maxRecDepth 100000 in
set_option maxHeartbeats 4000000 in
theorem walk (a0 : Int) (a1 : Option Addr) (len1 cap1 : Nat) (z1 : Nat → Nat → Int) (a2_0 a2_1 : Int) (w : World) (w0 : (Lit.int .i64 a0).wf = true) (w1 : Op.FlatRow [.u64, .u64] w a1 len1 cap1 z1) (w2_0 : (Lit.int .u64 a2_0).wf = true) (w2_1 : (Lit.int .u64 a2_1).wf = true) :
    Calls Try.prog 5 #[.int .i64 a0, .slice a1 len1 cap1, .agg #[.int .u64 a2_0, .int .u64 a2_1]] w fun e w' => e = .returned (.bool true) ∧ Below w.heap.size w w' := by
  obtain ⟨ds, hdl1, hdL1, hdB1⟩ := sp_of_row w1
  have hD1 : Deeds w a1 len1 cap1 ds := ⟨hdl1, hdL1, hdB1⟩
  obtain ⟨b00, b01⟩ := bounds_i64 w0
  have hk := kOf_le a0
  have hdn : doneN ds ≤ ds.length := by unfold doneN; omega
  have hmd : Made (kOf a0) (play (kOf a0) ds (doneN ds)).2 := play_made hk.1 (by omega) ds _ hdn
  have hplay := fun (W : World) (hW : Below w.heap.size w W) => played_any a0 b00 (by omega) ds W a1 len1 cap1 (hD1.grow hW)
  have hlk := play_last (kOf a0) hk.1 (by omega) ds (doneN ds) hdn
  have htk := play_tick (kOf a0) ds (doneN ds) hdn
  obtain ⟨kk, hkk⟩ : ∃ x, kOf a0 = x := ⟨_, rfl⟩
  rw [hkk] at hk hmd hlk htk
  simp only [hkk] at hplay
  obtain ⟨TK, hTK⟩ : ∃ x, (play kk ds (doneN ds)).1 = x := ⟨_, rfl⟩
  rw [hTK] at hlk htk
  obtain ⟨L, hL⟩ : ∃ x, (play kk ds (doneN ds)).2 = x := ⟨_, rfl⟩
  rw [hL] at hmd hlk
  simp only [hL] at hplay
  obtain ⟨N, hN⟩ : ∃ x, L.length = x := ⟨_, rfl⟩
  simp only [hN] at hplay
  have hN53 : N ≤ 53 := by have := hmd.len; omega
  have hlev : ∀ i, (lev L i).length ≤ 1026 := hmd.lev
  have htot : tot L ≤ 4503599627370496 := hmd.small
  have HP := Lib.hid hplay
  have HMD := Lib.hid hmd
  have HLEV := Lib.hid hlev
  have HN := Lib.hid hN
  have HDE := Lib.hid hD1
  have HLK := Lib.hid hlk
  have hTKl : TK ≤ 30000 := by have : doneN ds ≤ 30 := by unfold doneN; omega
                               omega
  clear hplay hmd hlev hN hD1 hdl1 hdL1 hdB1 hkk hTK hL w0 w1 hdn hlk htk
  obtain ⟨c20, c21⟩ := bounds_u64 w2_0
  obtain ⟨c30, c31⟩ := bounds_u64 w2_1
  obtain ⟨d0, rfl⟩ : ∃ m : Nat, a2_0 = m := ⟨a2_0.toNat, by omega⟩
  obtain ⟨d1, rfl⟩ : ∃ m : Nat, a2_1 = m := ⟨a2_1.toNat, by omega⟩
  clear w2_0 w2_1 c20 c21 c30 c31
  have hbx : (w.alloc (.cells #[.int .u64 (d0 : Int), .int .u64 (d1 : Int)] 48)).heap[w.heap.size]? = some (.cells #[.int .u64 (d0 : Int), .int .u64 (d1 : Int)] 48) := heap_alloc_new w _
  have HBX := Lib.hid hbx
  clear hbx
  obtain ⟨lv, hlv⟩ : ∃ x, (lastOf L).getD 0 = x := ⟨_, rfl⟩
  obtain ⟨lb, hlb⟩ : ∃ x, (lastOf L).isSome = x := ⟨_, rfl⟩
  obtain ⟨T, hT⟩ : ∃ x, tot L = x := ⟨_, rfl⟩
  have hlvT : lv ≤ TK := by
    rw [← hlv]
    cases hx : lastOf L with
    | none => simp
    | some x => exact HLK.out x hx
  obtain ⟨t, ht⟩ : ∃ t, lv + d0 % 1000 = t := ⟨_, rfl⟩
  obtain ⟨nn, hnn⟩ : ∃ n, d1 % 60 + 1 = n := ⟨_, rfl⟩
  have ht2 : t ≤ 1000000 := by omega
  have hn1 : 1 ≤ nn := by omega
  have hn2 : nn ≤ 60 := by omega
  have hlt0 : (lastOf L).getD 0 ≤ t := by omega
  have hcode := code_unit hn1 hn2 ht2 hlt0
  rw [hT] at hcode htot
  have hll := last_le hlt0
  have hlast := fun (W : World) (A : Option Addr) (c : Nat) (h : Levs W W.heap.size (.slice A N c) L) => rlast_any (kk : Int) 0 L W A c (by rw [HN.out]; exact h) (by have := HLEV.out 0; omega)
  have hto := fun (W : World) (A : Option Addr) (c : Nat) (h : Levs W W.heap.size (.slice A N c) L) => rtotal_any (kk : Int) 0 L (by rw [HN.out]; omega) (by omega) W A c (by rw [HN.out]; exact h)
  unfold lastV at hlast
  simp only [hlv, hlb, HN.out] at hlast
  simp only [hT, HN.out] at hto
  have HLAST := Lib.hid hlast
  have HTO := Lib.hid hto
  have HTT := Lib.hid ht
  have HNNN := Lib.hid hnn
  have HCODE := Lib.hid hcode
  have HLL := Lib.hid hll
  have HTOT := Lib.hid hT
  clear hlast hto ht hnn hcode hll hT hlv hlb hlt0
  go_enter Try.func5, Try.ntmps5
  go_upto_region 3 with (first
    | (go_at_call 9; refine (awake_any _).mono ?_; rintro e wa ⟨rfl, ha⟩; have q := (ha.block w.heap.size (by simp)).trans HBX.out; have HX := Lib.hid q; have HWA := Lib.hid (((Below.refl _ w).alloc (Nat.le_refl _) _).trans (ha.mono (by simp))); clear ha q)
    | (go_at_call 10; refine (HP.out _ HWA.out).mono ?_; rintro e w3 ⟨A, c, A2, c2, rfl, hLa, hLb, hb3⟩; have q := (hb3.block _ (lt_of HX.out)).trans HX.out; have HX3 := Lib.hid q; have HLA := Lib.hid hLa; have HLB := Lib.hid hLb; have HB3 := Lib.hid (thn HWA.out hb3); clear hLa hLb hb3 q))
  have HX4 := Lib.hid ((((Below.refl w3.heap.size w3).alloc (Nat.le_refl _) (.cells #[.int .i64 (kk : Int), .int .i64 0, .slice A N c] 26)).alloc (by simp) (.cells #[.int .i64 (kk : Int), .int .i64 0, .slice A2 N c2] 27)).block _ (lt_of HX3.out) |>.trans HX3.out)
  have hl3 := lt_of HX3.out
  obtain ⟨W4, hW4, hsz4, p0, p1, hB4⟩ := heap_two w3 (.cells #[.int .i64 (kk : Int), .int .i64 0, .slice A N c] 26) (.cells #[.int .i64 (kk : Int), .int .i64 0, .slice A2 N c2] 27)
  rw [← hW4] at HX4 ⊢
  have HLA4 := Lib.hid (HLA.out.grow hB4)
  have HLB4 := Lib.hid (HLB.out.grow hB4)
  have HB4 := Lib.hid (thn HB3.out hB4)
  have P0 := Lib.hid p0
  have P1 := Lib.hid p1
  obtain ⟨q0, q1, q2⟩ := box3 p0
  obtain ⟨r0, r1, r2⟩ := box3 p1
  have l0 := lt_of p0
  have l1 := lt_of p1
  clear hW4 hB4 p0 p1 HLA HLB HB3 HP
  go_upto_region 4 with (go_at_call 12; refine (HLAST.out _ _ _ HLB4.out).mono ?_; rintro e w5 ⟨rfl, hb5⟩; have HB5 := Lib.hid hb5; clear hb5)
  have px := (HB5.out.block _ (lt_of HX4.out)).trans HX4.out
  have ph := (HB5.out.block _ l0).trans P0.out
  have pr := (HB5.out.block _ l1).trans P1.out
  obtain ⟨x0, x1, -, -⟩ := box2 px
  have lx := lt_of px
  obtain ⟨h0, h1, h2⟩ := box3 ph
  have lh := lt_of ph
  have HPR := Lib.hid pr
  have HLB5 := Lib.hid (HLB4.out.grow HB5.out)
  have HLA5 := Lib.hid (HLA4.out.grow HB5.out)
  have HBW5 := Lib.hid (thn HB4.out HB5.out)
  have lr := lt_of pr
  have bt : (lv : Int) + (d0 : Int) % 1000 ≤ 18446744073709551615 := by omega
  clear px ph pr q0 q1 q2 r0 r1 r2 l0 l1 HLA4 HLB4 HB4 HB5 HX4 HX3 hsz4 P0 P1
  go_upto_region 6 with (fail)
  rw [show (lv : Int) + (d0 : Int) % 1000 = (t : Int) by have := HTT.out; omega, show (d1 : Int) % 60 + 1 = (nn : Int) by have := HNNN.out; omega]
  clear bt
  rcases HCODE.out with ⟨hc, hs⟩ | ⟨hc, hs⟩
  · have hadd := add_ok kk 0 L HMD.out t nn (by omega) hc w5 A c (by rw [HN.out]; exact HLA5.out)
    rw [HN.out] at hadd
    have hR : ∀ j, j ≤ nn → Made kk (addW kk L t j) := fun j hj => made_addW HMD.out HLL.out (by have := HTOT.out; omega)
    have HADD := Lib.hid hadd
    have HMR := Lib.hid hR
    clear hadd hR hc hs
    go_upto_region 7 with (go_at_call 16; refine HADD.out.mono ?_; rintro e w6 ⟨v, rfl, hL6, hb6⟩; obtain ⟨A6, c6, rfl, -, -, hL6'⟩ := hL6.form; have HL6 := Lib.hid hL6'; have HB6 := Lib.hid hb6; clear hL6 hL6' hb6)
    obtain ⟨NA, hNA⟩ : ∃ n, (addW kk L t nn).length = n := ⟨_, rfl⟩
    have hL6 := HL6.out
    rw [hNA] at hL6 ⊢
    obtain ⟨W7, hW7⟩ : ∃ W, w6.alloc (.cells #[.int .i64 (kk : Int), .int .i64 0, .slice A6 NA c6] 26) = W := ⟨_, rfl⟩
    have hB7 : Below w6.heap.size w6 W7 := by rw [← hW7]; exact (Below.refl _ w6).alloc (Nat.le_refl _) _
    have pA : W7.heap[w6.heap.size]? = some (.cells #[.int .i64 (kk : Int), .int .i64 0, .slice A6 NA c6] 26) := by rw [← hW7]; exact heap_alloc_new w6 _
    rw [hW7]
    have b57 := thn HB6.out hB7
    have pR := (b57.block _ lr).trans HPR.out
    have hL7 := hL6.grow hB7
    have hLB7 := HLB5.out.grow b57
    have HNA := Lib.hid hNA
    have PA := Lib.hid pA
    have PR := Lib.hid pR
    have HLA7 := Lib.hid hL7
    have HLB7 := Lib.hid hLB7
    have HBW7 := Lib.hid (thn HBW5.out b57)
    have hz6 : w3.heap.size + 1 < w6.heap.size := Nat.lt_of_lt_of_le lr HB6.out.size
    have hz3 : w.heap.size ≤ w3.heap.size := by omega
    clear hNA hL6 hW7 hB7 pA b57 pR hL7 hLB7 HL6 HB6 HADD h0 h1 h2 lh x0 x1 lx
    go_wp2
    go_loopw [17] (fun s17 wr => ∃ (j : Nat) (Aj : Option Addr) (cj : Nat), s17 = .int .u64 (j : Int) ∧ j ≤ nn ∧ wr.heap[w3.heap.size + 1]? = some (.cells #[.int .i64 (kk : Int), .int .i64 0, .slice Aj (addW kk L t j).length cj] 27) ∧ Levs wr wr.heap.size (.slice Aj (addW kk L t j).length cj) (addW kk L t j) ∧ wr.heap[w6.heap.size]? = some (.cells #[.int .i64 (kk : Int), .int .i64 0, .slice A6 NA c6] 26) ∧ Levs wr wr.heap.size (.slice A6 NA c6) (addW kk L t nn) ∧ Below w.heap.size w wr) (fun s17 _ => nn - (intOf s17).toNat)
    case atStart =>
      refine ⟨0, A2, c2, rfl, Nat.zero_le _, ?_, ?_, PA.out, HLA7.out, HBW7.out⟩
      · rw [addW_zero HMD.out, HN.out]
        exact PR.out
      · rw [addW_zero HMD.out, HN.out]
        exact HLB7.out
    case round =>
      obtain ⟨j, Aj, cj, rfl, hj, hbr, hLj, hba, hLa, hbel⟩ := hrel
      obtain ⟨y0, y1, y2⟩ := box3 hbr
      have ly := lt_of hbr
      have HBEL := Lib.hid hbel
      by_cases hlt : j < nn
      · have hun := runit_any kk (addW kk L t j) (addW kk L t (j + 1)) (HMR.out j (by omega)) (by omega) t (addW_succ kk L t j) (by have := (HMR.out (j + 1) (by omega)).len; omega) wr Aj cj hLj
        obtain ⟨Nj, hNj⟩ : ∃ n, (addW kk L t j).length = n := ⟨_, rfl⟩
        obtain ⟨Nk, hNk⟩ : ∃ n, (addW kk L t (j + 1)).length = n := ⟨_, rfl⟩
        rw [hNj, hNk] at hun
        rw [hNj] at y2
        have HUN := Lib.hid hun
        have HNK := Lib.hid hNk
        have HBR := Lib.hid hbr
        have HBA := Lib.hid hba
        have HLAA := Lib.hid hLa
        clear hun hNj hNk hbr hba hLa hLj hbel
        go_wp2_with (go_at_call 20; refine HUN.out.mono ?_; rintro e w8 ⟨A8, c8, rfl, hL8, hb8⟩; have q := (hb8.block _ ly).trans HBR.out; obtain ⟨z0, z1, z2⟩ := box3 q; have fz : ∀ i, w8.frozen? ⟨w3.heap.size + 1, i, none⟩ = false := (fun i => by simp [World.frozen?, q]); have lz := lt_of q; have HQ := Lib.hid q; have HL8 := Lib.hid hL8; have HB8 := Lib.hid hb8; clear q hL8 hb8)
        have hq := HQ.out
        have ha8 := (HB8.out.block _ (lt_of HBA.out)).trans HBA.out
        have hL9 := levs_set3 (by decide) (by decide) hq (.int .i64 (kk : Int)) (.int .i64 0) (.slice A8 Nk c8) HL8.out
        have hL10 := levs_set3 (by decide) (by decide) hq (.int .i64 (kk : Int)) (.int .i64 0) (.slice A8 Nk c8) (HLAA.out.grow HB8.out)
        refine ⟨⟨j + 1, A8, c8, by go_num, hlt, ?_, ?_, ?_, hL10, ?_⟩, by simp [intOf]; omega⟩
        · rw [HNK.out]
          exact set3 hq _ _ _
        · rw [HNK.out]
          exact hL9
        · exact (keep3 (by omega) _ _ _).trans ha8
        · exact below3 (thn HBEL.out HB8.out) (by omega) _ _ _
      · have e : j = nn := by omega
        subst e
        rw [HNA.out] at hLj y2
        obtain ⟨v0, v1, v2⟩ := box3 hba
        have lv6 := lt_of hba
        have hsm := lsame_any (kk : Int) 0 (kk : Int) 0 (addW kk L t j) (addW kk L t j) (by have := (HMR.out j (Nat.le_refl _)).len; omega) (fun i => by have := (HMR.out j (Nat.le_refl _)).lev i; omega) wr A6 Aj c6 cj (by rw [HNA.out]; exact hLa) (by rw [HNA.out]; exact hLj)
        rw [show sameB (kk : Int) 0 (kk : Int) 0 (addW kk L t j) (addW kk L t j) = true by simp [sameB], HNA.out] at hsm
        have HSM := Lib.hid hsm
        clear hsm hbr hba hLa hLj hbel
        go_wp2_with (go_at_call 13; refine HSM.out.mono ?_; rintro e w9 ⟨rfl, hb9⟩; have HB9 := Lib.hid hb9; clear hb9)
        go_ret
        exact ⟨rfl, thn HBEL.out HB9.out⟩
  · have hadd := add_bad kk 0 L HMD.out t nn (by omega) (by omega) w5 A c (by rw [HN.out]; exact HLA5.out)
    rw [HN.out, hc] at hadd
    have HADD := Lib.hid hadd
    have bs : (T : Int) + (nn : Int) ≤ 18446744073709551615 := by omega
    have ds5 : decide ((4503599627370496 : Int) < (T : Int) + (nn : Int)) = true := by simp; omega
    clear hadd hc hs
    go_upto_region 8 with (go_at_call 16; refine HADD.out.mono ?_; rintro e w6 ⟨rfl, hb6⟩; have HB6 := Lib.hid hb6; have q := (hb6.block _ lr).trans HPR.out; obtain ⟨z0, z1, z2⟩ := box3 q; have lz := lt_of q; clear hb6 q)
    go_wp2_with (go_at_call 15; refine (HTO.out _ _ _ ((HLB5.out.grow HB6.out).grow ((Below.refl _ w6).alloc (Nat.le_refl _) _))).mono ?_; rintro e w7 ⟨rfl, hb7⟩; have HB7 := Lib.hid (((Below.refl w6.heap.size w6).alloc (Nat.le_refl _) _).trans (hb7.mono (by simp))); clear hb7)
    go_ret
    exact ⟨by first | rfl | exact ret_b ds5, thn (thn HBW5.out HB6.out) HB7.out⟩

set_option maxRecDepth 100000 in
theorem lifted (os : Os) (started : os.Started) (H : Type) (enc : TypeId × Value → H) :
    ReturnsInHanded {} Try.checked os 5 .any (Rows.histUnitsSpec.pre6 enc Try.prog Try.f5 Rows.histUnitsRow.domain false) (Rows.histUnitsSpec.post enc Try.prog Try.f5 false true false false) := by
  refine returnsInHanded_of_change (C := Try.checked) own started (by kernel_rfl) Try.func5
    (ChangeSpec.witness6 (enc := enc) (C := Try.checked) false ⟨#[], #[.int .i64 0, .slice none 0 0, .agg #[.int .u64 0, .int .u64 0]], []⟩ 8 (by kernel_rfl) (by kernel_rfl) (by kernel_rfl) (by kernel_rfl)) ?_
  intro W base args ds gs before hval0 hW hcnd _
  have hval : ∀ (j : Nat) t v, Try.f5.params[j]? = some t → args[j]? = some v → Value.okWide Try.prog W .any base t v := hval0
  have hW' := hW
  obtain ⟨p, q, hA0, hV, rfl, hfz, hnd⟩ := hW
  have hA : DataW.TrodAll enc Try.prog W 0 (fun _ => true) true Try.f5.params.toList args.toList ds p := hA0
  rw [Try.params5] at hA hval
  obtain ⟨v0, vs0, d0, ds0, p0, q0, hargs, rfl, rfl, h0, r0⟩ := trodAll_cons hA
  obtain ⟨v1, vs1, d1, ds1, p1, q1, rfl, rfl, rfl, h1, r1⟩ := trodAll_cons r0
  obtain ⟨v2, vs2, d2, ds2, p2, q2, rfl, rfl, rfl, h2, r2⟩ := trodAll_cons r1
  obtain ⟨rfl, rfl, rfl⟩ := trodAll_nil r2
  obtain rfl : args = #[v0, v1, v2] := by cases args; simp_all
  obtain ⟨rfl, rfl⟩ := trodVars_none hV
  obtain ⟨a0, rfl, rfl, rfl, w0⟩ := open_int Try.underlying3 (hval 0 3 v0 rfl rfl) h0
  obtain ⟨a1, len1, cap1, rfl⟩ := okWide_slice Try.underlying22 (hval 1 22 v1 rfl rfl)
  have k1 := h1
  have lt1 : ∀ x ∈ p1, x.block < W.heap.size := by obtain ⟨m, hm⟩ := k1; exact DataW.trod_lt m _ _ _ hm
  obtain ⟨z1, w1⟩ := Op.open_flats (f := 9) (ks := [.u64, .u64]) Try.underlying22 (by kernel_rfl) (by kernel_rfl) (by decide) h1
  have k2 := h2
  have lt2 : ∀ x ∈ p2, x.block < W.heap.size := by obtain ⟨m, hm⟩ := k2; exact DataW.trod_lt m _ _ _ hm
  obtain ⟨c2, rfl, fit2⟩ := Op.open_flat (f := 9) (ks := [.u64, .u64]) (by kernel_rfl) (by kernel_rfl) (hval 2 48 v2 rfl rfl) h2
  obtain ⟨a2_0, a2_1, rfl, w2_0, w2_1⟩ := fit2_of fit2
  clear hA0 hval0
  refine (walk a0 a1 len1 cap1 z1 a2_0 a2_1 W w0 w1 w2_0 w2_1).mono fun e W' ⟨he, bel⟩ => ?_
  subst he
  exact ⟨_, rfl, _, _, _, [], _, [], hW', trodAll_mk1 (shut_bool Try.underlying4 _), (trodAll_cons_mk (shut_int Try.underlying3 w0) (trodAll_cons_mk (Below.trod laidOut (by kernel_rfl) (of_decide_eq_true (by kernel_rfl)) k1 bel lt1) (trodAll_cons_mk (Below.trod laidOut (by kernel_rfl) (of_decide_eq_true (by kernel_rfl)) k2 bel lt2) trodAll_mk0))), rfl, bel.frame _, fun h => by cases h⟩

theorem over : Rows.histUnitsRow.holds Try.pinned (OpenSpec.ofChange Rows.histUnitsSpec) :=
  OpenClaim.holds_of_wide 5 Try.f5 rfl rfl rfl rfl rfl rfl rfl ⟨rfl, rfl, rfl, rfl, rfl⟩ rfl rfl rfl rfl rfl (by kernel_rfl) Try.func5 (by kernel_rfl)
    (of_decide_eq_true (by kernel_rfl)) (by unfold Func.isWrapper; first | (rw [if_pos (by decide +kernel)]; kernel_rfl) | (rw [if_neg (by decide +kernel)]; exact ⟨rfl, rfl⟩))
    (fun os started H enc _ => lifted os started H enc)

/-- The statement. -/
theorem proved : Rows.HistUnitsSaid := over
#print axioms proved
end Go.Proofs.Ytimlmaincblkoaa.histUnits
