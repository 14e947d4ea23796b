/-
  'skylight/skylightlaw12.BufferPlays' returns true for every input, and the input reads afterwards as it read before. Conditions: none.
-/
import Derived.Test.YtienfdnlekfmmaaRows
import Derived.WalkKit
import Derived.ProofKit
import Derived.OpenShut
import Derived.ShutString
import Derived.ChangeOld
import Derived.Below
import Derived.Test.YtienfdnlekfmmaaJ01
import Derived.Test.YtienfdnlekfmmaaJ16
namespace Go.Proofs.Ytienfdnlekfmmaa.bufferPlays
open Go.Proofs Go.Proofs.Op Go.Proofs.Rw Go.Proofs.Lm Go.Proofs.Lh Go.Proofs.Rn Go.Proofs.Rf Go.Proofs.Bu
open Go.ChangeShapes Go.WideShapes Go.ChangeAt Go.RowKit
open Go.ChangeMaps (open_string shut_string)
set_option linter.unusedVariables false

theorem own : ownKnob Try.prog.godebug = none := by kernel_rfl
theorem laidOut : laidOutB Try.prog = true := by kernel_rfl

/-- A slice of integers that came in: nil, or a row of cells of its capacity, each fitting its kind. -/
def IsRow (k : IntKind) (w : World) (a : Option Addr) (len cap : Nat) (zs : List Int) : Prop :=
  (a = none ∧ len = 0 ∧ cap = 0 ∧ zs = []) ∨
  ∃ x, a = some x ∧ len ≤ cap ∧ cap ≤ maxLen ∧ zs.length = cap ∧ (∀ i, i < zs.length → w.cell? (x.add i) = some (.int k (zs.getD i 0))) ∧ ∀ n ∈ zs, (Lit.int k n).wf = true

open Go.RowKit Go.Shelf Go.Proofs.Rw Go.Proofs.Lh Go.Proofs.Bu
set_option linter.unusedVariables false
theorem oneR_len {b : Bf} (h : MayB b) (e : Ev) : (oneR b e).1.evs.length + (oneR b e).2.length ≤ b.evs.length + 1 := by
  unfold oneR
  split
  · have := stepM_len (s := (b, [])) h e
    unfold stepM at this
    rename_i h0
    rw [if_pos h0] at this
    simpa using this
  · simp [zB]

set_option maxRecDepth 100000 in
set_option maxHeartbeats 4000000 in
theorem walk (a0 : Int) (a1 : Int) (a2 : Option Addr) (len2 cap2 : Nat) (z2 : Nat → Nat → Int) (w : World) (w0 : (Lit.int .u64 a0).wf = true) (w1 : (Lit.int .i64 a1).wf = true) (w2 : Op.FlatRow [.u64, .u64, .u64] w a2 len2 cap2 z2) :
    Calls Try.prog 3 #[.int .u64 a0, .int .i64 a1, .slice a2 len2 cap2] w fun e w' => e = .returned (.bool true) ∧ Below w.heap.size w w' := by
  obtain ⟨b0, b1⟩ := bounds_u64 w0
  obtain ⟨r0, r1⟩ := bounds_i64 w1
  obtain ⟨l, hll, hl, hfit⟩ := ev_of_row w2
  have hle := lateOf_eq a0 b0
  have hre := roomOf2_eq a1
  have hrl := roomOf2_le a1
  obtain ⟨lt, hlt⟩ : ∃ x, lateOf a0 = x := ⟨_, rfl⟩
  obtain ⟨rm, hrm⟩ : ∃ x, roomOf2 a1 = x := ⟨_, rfl⟩
  rw [hlt] at hle
  rw [hrm] at hre hrl
  have hcf : confB (lt : Int) (rm : Int) = true := by simp [confB]; omega
  have kn : ∀ (l r : Int) (W : World), l = (lt : Int) → r = (rm : Int) → Calls Try.prog 10 #[.int .u64 l, .int .i64 r] W fun e w' => e = .returned (.tuple #[bval (lt : Int) (rm : Int) 0 0 (.slice none 0 0), .int .i64 0]) ∧ Below W.heap.size W w' := fun l r W h1 h2 => by
    have h := bnew_any l r W
    rw [h1, h2, newV_yes hcf] at h
    rw [h1, h2]
    exact h
  have hmm := fun j => made_may (late := lt) (room := rm) (by omega) hrl.1 (by omega) (l.take j)
  have HM := Lib.hid hmm
  have KN := Lib.hid kn
  have HRE := Lib.hid hre
  have HLE := Lib.hid hle.1
  have HL := Lib.hid hl
  have HN := Lib.hid hll
  have HB := Lib.hid (Below.refl w.heap.size w)
  clear w0 w1 w2 kn hre hle hlt hrm hcf hrl hl hll hmm hfit
  go_enter Try.func3, Try.ntmps3
  go_upto_region 2 with (go_at_call 9; (with_reducible refine (bawake_any _).mono ?_); rintro e w1 ⟨rfl, hb⟩; replace HB := Lib.hid (thn HB.out hb); clear hb)
  go_cut [8, 9] from 27 to 35 (fun s8 s9 wx => ∃ p : Nat, s8 = .pointer (some ⟨p, 0, none⟩) ∧ s9 = .int .i64 0 ∧ w.heap.size ≤ p ∧ Hid (wx.heap[p]? = some (.cells #[.int .u64 (lt : Int), .int .i64 (rm : Int), .int .u64 0, .int .u64 0, .slice none 0 0] 27)) ∧ Hid (Below w.heap.size w wx))
  case first =>
    by_cases h : 0 ≤ a1
    · go_wp2_with (go_at_call 10; (with_reducible refine (KN.out _ _ _ (by exact HLE.out.symm) (by have := HRE.out; rw [this, Int.max_eq_left h])).mono ?_); rintro e w2 ⟨rfl, hb⟩; have HB2 := Lib.hid (thn HB.out hb); clear hb)
      go_meet
      case rel => exact ⟨w2.heap.size, rfl, rfl, HB2.out.size, Lib.hid (heap_alloc_new w2 _), Lib.hid (HB2.out.alloc HB2.out.size _)⟩
    · go_wp2_with (go_at_call 10; (with_reducible refine (KN.out _ _ _ (by exact HLE.out.symm) (by have := HRE.out; omega)).mono ?_); rintro e w2 ⟨rfl, hb⟩; have HB2 := Lib.hid (thn HB.out hb); clear hb)
      go_meet
      case rel => exact ⟨w2.heap.size, rfl, rfl, HB2.out.size, Lib.hid (heap_alloc_new w2 _), Lib.hid (HB2.out.alloc HB2.out.size _)⟩
  case rest =>
  obtain ⟨p, rfl, rfl, hpw, HP, HB⟩ := hcut
  rename World => wx
  go_upto_region 3 with (fail)
  go_cut [10] from 36 to 42 (fun s10 wy => s10 = .pointer (some ⟨wx.heap.size, 0, none⟩) ∧ wx.alloc (.cells #[.int .u64 (lt : Int), .int .i64 (rm : Int), .int .u64 0, .int .u64 0, .slice none 0 0] 31) = wy)
  case first =>
    by_cases h : 0 ≤ a1
    · go_wp2
      go_meet
      case rel => exact ⟨rfl, by rw [HLE.out, HRE.out, Int.max_eq_left h]⟩
    · go_wp2
      go_meet
      case rel =>
        have e : (rm : Int) = 1 := by have := HRE.out; rw [this]; omega
        exact ⟨rfl, by rw [HLE.out, e]⟩
  case rest =>
  obtain ⟨rfl, hwy⟩ := hcut
  rename World => wy
  have q0 : wy.heap[wx.heap.size]? = some (.cells #[.int .u64 (lt : Int), .int .i64 (rm : Int), .int .u64 0, .int .u64 0, .slice none 0 0] 31) := by rw [← hwy]; exact heap_alloc_new wx _
  have hbx : Below wx.heap.size wx wy := by rw [← hwy]; exact (Below.refl _ wx).alloc (Nat.le_refl _) _
  have p0 := (hbx.block _ (lt_of HP.out)).trans HP.out
  have hpq : p ≠ wx.heap.size := by have := lt_of HP.out; omega
  obtain ⟨q, hq⟩ : ∃ q, wx.heap.size = q := ⟨_, rfl⟩
  have hqw : w.heap.size ≤ q := by rw [← hq]; exact HB.out.size
  rw [hq] at q0 hpq ⊢
  have HP0 := Lib.hid p0
  have HQ0 := Lib.hid q0
  replace HB := Lib.hid (thn HB.out hbx)
  clear HRE HLE KN hwy p0 q0 hbx hq HP
  go_wp2
  go_loopw [11] (fun s11 wr => ∃ (j : Nat) (A1 : Option Addr) (c1 : Nat) (A2 : Option Addr) (c2 : Nat), s11 = .int .i64 (j : Int) ∧ j ≤ 40 ∧ j ≤ len2 ∧ Hid (VarB 27 wr p A1 c1 (madeM lt rm (l.take j)).1) ∧ Hid (VarB 31 wr q A2 c2 (madeM lt rm (l.take j)).1) ∧ Hid (Below w.heap.size w wr)) (fun s11 _ => 40 - (intOf s11).toNat)
  case atStart => exact ⟨0, none, 0, none, 0, rfl, by omega, Nat.zero_le _, Lib.hid ⟨HP0.out, Evs.none _⟩, Lib.hid ⟨HQ0.out, Evs.none _⟩, HB⟩
  case round =>
    obtain ⟨j, A1, c1, A2, c2, rfl, hj40, hjn, HV1, HV2, HB⟩ := hrel
    have hmy := HM.out j
    by_cases hlt : j < 40 ∧ j < len2
    · obtain ⟨hlt1, hlt2⟩ := hlt
      have hjl : j < l.length := by rw [HN.out]; exact hlt2
      have hLw : Lies evL wr w.heap.size (.slice a2 l.length cap2) l := by rw [HN.out]; exact HL.out.below HB.out
      obtain ⟨bb, off, rfl, hbb0, -, hc⟩ := ev_at hLw (by omega)
      obtain ⟨k0, k1, k2⟩ := hc j hjl
      have hst := made_step (late := lt) (room := rm) hjl
      obtain ⟨e, he⟩ : ∃ e, l[j] = e := ⟨_, rfl⟩
      obtain ⟨⟨b, ob⟩, hs⟩ : ∃ s, madeM lt rm (l.take j) = s := ⟨_, rfl⟩
      rw [he] at k0 k1 k2 hst
      rw [hs] at HV1 HV2 hst hmy
      dsimp only at HV1 HV2 hmy
      obtain ⟨⟨t, k, n⟩, he2⟩ : ∃ x, e = x := ⟨_, rfl⟩
      subst he2
      dsimp only at k0 k1 k2
      have hone := oneR_len hmy (t, k, n)
      have hfew : b.evs.length ≤ 1024 := by have := hmy.few; have := hmy.room; omega
      have hbb : bb < wr.heap.size := Nat.lt_of_lt_of_le hbb0 HB.out.size
      have Pp := Lib.hid HV1.out.1
      have Pg := Lib.hid HV2.out.1
      have Ep := Lib.hid HV1.out.2
      have Eg := Lib.hid HV2.out.2
      have HMY := Lib.hid hmy
      have HST := Lib.hid hst
      clear hc hLw he hs hjl HV1 HV2 hst
      go_upto_region 10 with (fail)
      have ltdp := lt_of Pp.out
      have ltdg := lt_of Pg.out
      obtain ⟨wd, hwd⟩ : ∃ W, wr.alloc (.cells #[.int .u64 (t : Int), .int .u64 (k : Int), .int .u64 (n : Int)] 33) = W := ⟨_, rfl⟩
      have hb : Below wr.heap.size wr wd := by rw [← hwd]; exact (Below.refl _ wr).alloc (Nat.le_refl _) _
      have hp : wd.heap[wr.heap.size]? = some (.cells #[.int .u64 (t : Int), .int .u64 (k : Int), .int .u64 (n : Int)] 33) := by rw [← hwd]; exact heap_alloc_new wr _
      rw [hwd]
      obtain ⟨qd, hqd⟩ : ∃ q, wr.heap.size = q := ⟨_, rfl⟩
      rw [hqd] at hp ltdp ltdg ⊢
      have Pd := Lib.hid hp
      replace Pp := Lib.hid ((hb.block _ (lt_of Pp.out)).trans Pp.out)
      replace Pg := Lib.hid ((hb.block _ (lt_of Pg.out)).trans Pg.out)
      replace Ep := Lib.hid (Ep.out.grow hb)
      replace Eg := Lib.hid (Eg.out.grow hb)
      replace HB := Lib.hid (thn HB.out hb)
      clear hwd hp hqd hb
      clear k0 k1 k2
      obtain ⟨⟨y, oy⟩, hR⟩ : ∃ R, oneR b (t, k, n) = R := ⟨_, rfl⟩
      obtain ⟨C, hC⟩ : ∃ C, oneC b (t, k, n) = C := ⟨_, rfl⟩
      rw [hR] at hone
      dsimp only at hone
      by_cases hn : n = 0
      · obtain ⟨h1, h2⟩ := one_move (b := b) (e := (t, k, n)) hn
        have hnz : ((n : Int) == 0) = true := by rw [hn]; rfl
        have kb := fun W A c h => bmove_c b (may_ok hmy) t W A c h
        have kr := fun W A c h => rmove_c b (may_ok hmy) t W A c h
        rw [hR] at h1
        rw [hC] at h2
        try dsimp only at h1 h2
        simp only [← h1, ← h2, ToldC, bufV, bval] at kb kr
        have KB := Lib.hid kb
        have KR := Lib.hid kr
        have HR := Lib.hid hR
        have HCC := Lib.hid hC
        have HONE := Lib.hid hone
        clear kb kr hR hC h1 h2 hn hone
        obtain ⟨d0, d1, d2⟩ := box3 Pd.out
        have dl := lt_of Pd.out
        obtain ⟨⟨p0, p1, p2, p3, p4⟩, pf⟩ := box5 Pp.out
        have pl := lt_of Pp.out
        go_upto_region 12 with (go_at_call 11; (with_reducible refine (KB.out _ _ _ Ep.out).mono ?_); rintro e w4 ⟨A3, c3, A4, c4, rfl, h1, h2, hb, -, -⟩; replace Pp := Lib.hid ((hb.block _ (lt_of Pp.out)).trans Pp.out); replace Pg := Lib.hid ((hb.block _ (lt_of Pg.out)).trans Pg.out); replace Pd := Lib.hid ((hb.block _ (lt_of Pd.out)).trans Pd.out); replace Ep := Lib.hid (Ep.out.grow hb); replace Eg := Lib.hid (Eg.out.grow hb); replace HB := Lib.hid (thn HB.out hb); have Ey := Lib.hid h1; have Eo := Lib.hid h2; clear h1 h2 hb)
        clear d0 d1 d2 dl
        clear p0 p1 p2 p3 p4 pf pl
        have ltyp := lt_of Pp.out
        have ltyg := lt_of Pg.out
        have ltyd := lt_of Pd.out
        obtain ⟨wy, hwy⟩ : ∃ W, w4.alloc (.cells #[.int .u64 (y.late : Int), .int .i64 (y.room : Int), .int .u64 (y.mark : Int), .int .u64 (y.front : Int), .slice A3 y.evs.length c3] 27) = W := ⟨_, rfl⟩
        have hb : Below w4.heap.size w4 wy := by rw [← hwy]; exact (Below.refl _ w4).alloc (Nat.le_refl _) _
        have hp : wy.heap[w4.heap.size]? = some (.cells #[.int .u64 (y.late : Int), .int .i64 (y.room : Int), .int .u64 (y.mark : Int), .int .u64 (y.front : Int), .slice A3 y.evs.length c3] 27) := by rw [← hwy]; exact heap_alloc_new w4 _
        rw [hwy]
        obtain ⟨qy, hqy⟩ : ∃ q, w4.heap.size = q := ⟨_, rfl⟩
        rw [hqy] at hp ltyp ltyg ltyd ⊢
        have Py := Lib.hid hp
        replace Pp := Lib.hid ((hb.block _ (lt_of Pp.out)).trans Pp.out)
        replace Pg := Lib.hid ((hb.block _ (lt_of Pg.out)).trans Pg.out)
        replace Pd := Lib.hid ((hb.block _ (lt_of Pd.out)).trans Pd.out)
        replace Ep := Lib.hid (Ep.out.grow hb)
        replace Eg := Lib.hid (Eg.out.grow hb)
        replace Ey := Lib.hid (Ey.out.grow hb)
        replace Eo := Lib.hid (Eo.out.grow hb)
        replace HB := Lib.hid (thn HB.out hb)
        clear hwy hp hqy hb
        obtain ⟨d0, d1, d2⟩ := box3 Pd.out
        have dl := lt_of Pd.out
        obtain ⟨⟨g0, g1, g2, g3, g4⟩, gf⟩ := box5 Pg.out
        have gl := lt_of Pg.out
        go_upto_region 13 with (go_at_call 12; (with_reducible refine (KR.out _ _ _ Eg.out).mono ?_); rintro e w5 ⟨A5, c5, A6, c6, rfl, h1, h2, hb, -, -⟩; replace Pp := Lib.hid ((hb.block _ (lt_of Pp.out)).trans Pp.out); replace Pg := Lib.hid ((hb.block _ (lt_of Pg.out)).trans Pg.out); replace Pd := Lib.hid ((hb.block _ (lt_of Pd.out)).trans Pd.out); replace Py := Lib.hid ((hb.block _ (lt_of Py.out)).trans Py.out); replace Ep := Lib.hid (Ep.out.grow hb); replace Eg := Lib.hid (Eg.out.grow hb); replace Ey := Lib.hid (Ey.out.grow hb); replace Eo := Lib.hid (Eo.out.grow hb); replace HB := Lib.hid (thn HB.out hb); have Ez := Lib.hid h1; have Em := Lib.hid h2; clear h1 h2 hb)
        clear d0 d1 d2 dl
        clear g0 g1 g2 g3 g4 gf gl
        have ltzp := lt_of Pp.out
        have ltzg := lt_of Pg.out
        have ltzd := lt_of Pd.out
        have ltzy := lt_of Py.out
        obtain ⟨wz, hwz⟩ : ∃ W, w5.alloc (.cells #[.int .u64 (y.late : Int), .int .i64 (y.room : Int), .int .u64 (y.mark : Int), .int .u64 (y.front : Int), .slice A5 y.evs.length c5] 31) = W := ⟨_, rfl⟩
        have hb : Below w5.heap.size w5 wz := by rw [← hwz]; exact (Below.refl _ w5).alloc (Nat.le_refl _) _
        have hp : wz.heap[w5.heap.size]? = some (.cells #[.int .u64 (y.late : Int), .int .i64 (y.room : Int), .int .u64 (y.mark : Int), .int .u64 (y.front : Int), .slice A5 y.evs.length c5] 31) := by rw [← hwz]; exact heap_alloc_new w5 _
        rw [hwz]
        obtain ⟨qz, hqz⟩ : ∃ q, w5.heap.size = q := ⟨_, rfl⟩
        rw [hqz] at hp ltzp ltzg ltzd ltzy ⊢
        have Pz := Lib.hid hp
        replace Pp := Lib.hid ((hb.block _ (lt_of Pp.out)).trans Pp.out)
        replace Pg := Lib.hid ((hb.block _ (lt_of Pg.out)).trans Pg.out)
        replace Pd := Lib.hid ((hb.block _ (lt_of Pd.out)).trans Pd.out)
        replace Py := Lib.hid ((hb.block _ (lt_of Py.out)).trans Py.out)
        replace Ep := Lib.hid (Ep.out.grow hb)
        replace Eg := Lib.hid (Eg.out.grow hb)
        replace Ey := Lib.hid (Ey.out.grow hb)
        replace Eo := Lib.hid (Eo.out.grow hb)
        replace Ez := Lib.hid (Ez.out.grow hb)
        replace Em := Lib.hid (Em.out.grow hb)
        replace HB := Lib.hid (thn HB.out hb)
        clear hwz hp hqz hb
        obtain ⟨⟨y0, y1, y2, y3, y4⟩, yf⟩ := box5 Py.out
        have yl := lt_of Py.out
        obtain ⟨⟨z0, z1, z2, z3, z4⟩, zf⟩ := box5 Pz.out
        have zl := lt_of Pz.out
        have hlen := HONE.out
        have ks := lsameB_any (y.late : Int) (y.room : Int) (y.mark : Int) (y.front : Int) (y.late : Int) (y.room : Int) (y.mark : Int) (y.front : Int) y.evs y.evs (by omega) wz A3 A5 c3 c5 Ey.out.lies Ez.out.lies
        rw [show bufEqB (y.late : Int) (y.room : Int) (y.mark : Int) (y.front : Int) (y.late : Int) (y.room : Int) (y.mark : Int) (y.front : Int) y.evs y.evs = true by simp [bufEqB]] at ks
        have ke := fun (W : World) (hW : Below wz.heap.size wz W) => revs_any oy oy (by omega) W W.heap.size (Nat.le_refl _) A4 A6 c4 c6 (Eo.out.grow hW).lies (Em.out.grow hW).lies
        simp only [decide_true] at ke
        have KS := Lib.hid ks
        have KE := Lib.hid ke
        have hst := HST.out
        unfold stepM at hst
        dsimp only at hst
        rw [HCC.out] at hst
        have hRR := HR.out
        unfold oneR at hRR
        rw [HCC.out] at hRR
        have hcc : (C != C) = false := by simp
        clear ks ke hlen
        by_cases hC : C = 0
        · have d : (C == 0) = true := by simpa using hC
          rw [if_pos hC] at hst hRR
          rw [hRR] at hst
          dsimp only at hst
          have HST2 := Lib.hid hst
          clear hC hst hRR HST
          go_upto_region 16 with (first
          | (go_at_call 13; (with_reducible refine KS.out.mono ?_); rintro e w6 ⟨rfl, hb⟩; have HS := Lib.hid hb; replace Pp := Lib.hid ((hb.block _ (lt_of Pp.out)).trans Pp.out); replace Pg := Lib.hid ((hb.block _ (lt_of Pg.out)).trans Pg.out); replace Pd := Lib.hid ((hb.block _ (lt_of Pd.out)).trans Pd.out); replace Py := Lib.hid ((hb.block _ (lt_of Py.out)).trans Py.out); replace Pz := Lib.hid ((hb.block _ (lt_of Pz.out)).trans Pz.out); replace Ep := Lib.hid (Ep.out.grow hb); replace Eg := Lib.hid (Eg.out.grow hb); replace Ey := Lib.hid (Ey.out.grow hb); replace Eo := Lib.hid (Eo.out.grow hb); replace Ez := Lib.hid (Ez.out.grow hb); replace Em := Lib.hid (Em.out.grow hb); replace HB := Lib.hid (thn HB.out hb); clear hb)
          | (go_at_call 14; (with_reducible refine (KE.out _ HS.out).mono ?_); rintro e w7 ⟨rfl, hb⟩; replace Pp := Lib.hid ((hb.block _ (lt_of Pp.out)).trans Pp.out); replace Pg := Lib.hid ((hb.block _ (lt_of Pg.out)).trans Pg.out); replace Pd := Lib.hid ((hb.block _ (lt_of Pd.out)).trans Pd.out); replace Py := Lib.hid ((hb.block _ (lt_of Py.out)).trans Py.out); replace Pz := Lib.hid ((hb.block _ (lt_of Pz.out)).trans Pz.out); replace Ep := Lib.hid (Ep.out.grow hb); replace Eg := Lib.hid (Eg.out.grow hb); replace Ey := Lib.hid (Ey.out.grow hb); replace Eo := Lib.hid (Eo.out.grow hb); replace Ez := Lib.hid (Ez.out.grow hb); replace Em := Lib.hid (Em.out.grow hb); replace HB := Lib.hid (thn HB.out hb); clear hb))
          clear y0 y1 y2 y3 y4 yf yl
          clear z0 z1 z2 z3 z4 zf zl
          obtain ⟨⟨y0, y1, y2, y3, y4⟩, yf⟩ := box5 Py.out
          have yl := lt_of Py.out
          obtain ⟨⟨p0, p1, p2, p3, p4⟩, pf⟩ := box5 Pp.out
          have pl := lt_of Pp.out
          obtain ⟨W5, hW5, q5, g5⟩ := fin5 Pp.out (.int .u64 (y.late : Int)) (.int .i64 (y.room : Int)) (.int .u64 (y.mark : Int)) (.int .u64 (y.front : Int)) (.slice A3 y.evs.length c3)
          have r5 := (g5.block _ (lt_of Pz.out) (by simp; omega)).trans Pz.out
          have s5 := (g5.block _ (lt_of Pg.out) (by simp; omega)).trans Pg.out
          have ey5 := Ey.out.other g5 Pp.out (by decide)
          have ez5 := Ez.out.other g5 Pp.out (by decide)
          have b5 := below_row HB.out g5 hpw
          obtain ⟨W6, hW6, q6, g6⟩ := fin5 s5 (.int .u64 (y.late : Int)) (.int .i64 (y.room : Int)) (.int .u64 (y.mark : Int)) (.int .u64 (y.front : Int)) (.slice A5 y.evs.length c5)
          have p6 := (g6.block _ (lt_of q5) (by simp; omega)).trans q5
          have ey6 := ey5.other g6 s5 (by decide)
          have ez6 := ez5.other g6 s5 (by decide)
          have b6 := below_row b5 g6 hqw
          obtain ⟨⟨v0, v1, v2, v3, v4⟩, vf⟩ := box5 r5
          obtain ⟨⟨x0, x1, x2, x3, x4⟩, xf⟩ := box5 s5
          have vl := lt_of r5
          have xl := lt_of s5
          have HW5 := Lib.hid hW5
          have HW6 := Lib.hid hW6
          have Q6 := Lib.hid q6
          have P6 := Lib.hid p6
          have EY6 := Lib.hid ey6
          have EZ6 := Lib.hid ez6
          have B6 := Lib.hid b6
          clear hW5 hW6 q5 q6 p6 ey5 ez5 ey6 ez6 b5 b6 g5 g6 r5 s5
          go_upto_region 17 with (fail)
          rw [HW5.out]
          go_wp2
          rw [HW6.out]
          refine ⟨⟨j + 1, A3, c3, A5, c5, by go_num, hlt1, hlt2, Lib.hid ?_, Lib.hid ?_, B6⟩, by simp [intOf]; omega⟩
          · rw [HST2.out]
            exact ⟨P6.out, EY6.out⟩
          · rw [HST2.out]
            exact ⟨Q6.out, EZ6.out⟩
        · have d : (C == 0) = false := by simpa using hC
          rw [if_neg hC] at hst
          have HST2 := Lib.hid hst
          clear hC hst hRR HST
          go_wp2_with (first
          | (go_at_call 13; (with_reducible refine KS.out.mono ?_); rintro e w6 ⟨rfl, hb⟩; have HS := Lib.hid hb; replace Pp := Lib.hid ((hb.block _ (lt_of Pp.out)).trans Pp.out); replace Pg := Lib.hid ((hb.block _ (lt_of Pg.out)).trans Pg.out); replace Pd := Lib.hid ((hb.block _ (lt_of Pd.out)).trans Pd.out); replace Py := Lib.hid ((hb.block _ (lt_of Py.out)).trans Py.out); replace Pz := Lib.hid ((hb.block _ (lt_of Pz.out)).trans Pz.out); replace Ep := Lib.hid (Ep.out.grow hb); replace Eg := Lib.hid (Eg.out.grow hb); replace Ey := Lib.hid (Ey.out.grow hb); replace Eo := Lib.hid (Eo.out.grow hb); replace Ez := Lib.hid (Ez.out.grow hb); replace Em := Lib.hid (Em.out.grow hb); replace HB := Lib.hid (thn HB.out hb); clear hb)
          | (go_at_call 14; (with_reducible refine (KE.out _ HS.out).mono ?_); rintro e w7 ⟨rfl, hb⟩; replace Pp := Lib.hid ((hb.block _ (lt_of Pp.out)).trans Pp.out); replace Pg := Lib.hid ((hb.block _ (lt_of Pg.out)).trans Pg.out); replace Pd := Lib.hid ((hb.block _ (lt_of Pd.out)).trans Pd.out); replace Py := Lib.hid ((hb.block _ (lt_of Py.out)).trans Py.out); replace Pz := Lib.hid ((hb.block _ (lt_of Pz.out)).trans Pz.out); replace Ep := Lib.hid (Ep.out.grow hb); replace Eg := Lib.hid (Eg.out.grow hb); replace Ey := Lib.hid (Ey.out.grow hb); replace Eo := Lib.hid (Eo.out.grow hb); replace Ez := Lib.hid (Ez.out.grow hb); replace Em := Lib.hid (Em.out.grow hb); replace HB := Lib.hid (thn HB.out hb); clear hb))
          refine ⟨⟨j + 1, A1, c1, A2, c2, by go_num, hlt1, hlt2, Lib.hid ?_, Lib.hid ?_, HB⟩, by simp [intOf]; omega⟩
          · rw [HST2.out]
            exact ⟨Pp.out, Ep.out⟩
          · rw [HST2.out]
            exact ⟨Pg.out, Eg.out⟩
      · obtain ⟨h1, h2⟩ := one_push (b := b) (e := (t, k, n)) hn
        have hnz : ((n : Int) == 0) = false := by rw [beq_eq_false_iff_ne]; omega
        have kb := fun W A c h => bpush_c b (may_ok hmy) (may_lt hmy) (t, k, n) W A c h
        have kr := fun W A c h => rpush_c b (may_ok hmy) (may_lt hmy) (t, k, n) W A c h
        rw [hR] at h1
        rw [hC] at h2
        try dsimp only at h1 h2
        simp only [← h1, ← h2, ToldC, bufV, bval] at kb kr
        have KB := Lib.hid kb
        have KR := Lib.hid kr
        have HR := Lib.hid hR
        have HCC := Lib.hid hC
        have HONE := Lib.hid hone
        clear kb kr hR hC h1 h2 hn hone
        obtain ⟨d0, d1, d2⟩ := box3 Pd.out
        have dl := lt_of Pd.out
        obtain ⟨⟨p0, p1, p2, p3, p4⟩, pf⟩ := box5 Pp.out
        have pl := lt_of Pp.out
        go_upto_region 19 with (go_at_call 15; (with_reducible refine (KB.out _ _ _ Ep.out).mono ?_); rintro e w4 ⟨A3, c3, A4, c4, rfl, h1, h2, hb, -, -⟩; replace Pp := Lib.hid ((hb.block _ (lt_of Pp.out)).trans Pp.out); replace Pg := Lib.hid ((hb.block _ (lt_of Pg.out)).trans Pg.out); replace Pd := Lib.hid ((hb.block _ (lt_of Pd.out)).trans Pd.out); replace Ep := Lib.hid (Ep.out.grow hb); replace Eg := Lib.hid (Eg.out.grow hb); replace HB := Lib.hid (thn HB.out hb); have Ey := Lib.hid h1; have Eo := Lib.hid h2; clear h1 h2 hb)
        clear d0 d1 d2 dl
        clear p0 p1 p2 p3 p4 pf pl
        have ltyp := lt_of Pp.out
        have ltyg := lt_of Pg.out
        have ltyd := lt_of Pd.out
        obtain ⟨wy, hwy⟩ : ∃ W, w4.alloc (.cells #[.int .u64 (y.late : Int), .int .i64 (y.room : Int), .int .u64 (y.mark : Int), .int .u64 (y.front : Int), .slice A3 y.evs.length c3] 27) = W := ⟨_, rfl⟩
        have hb : Below w4.heap.size w4 wy := by rw [← hwy]; exact (Below.refl _ w4).alloc (Nat.le_refl _) _
        have hp : wy.heap[w4.heap.size]? = some (.cells #[.int .u64 (y.late : Int), .int .i64 (y.room : Int), .int .u64 (y.mark : Int), .int .u64 (y.front : Int), .slice A3 y.evs.length c3] 27) := by rw [← hwy]; exact heap_alloc_new w4 _
        rw [hwy]
        obtain ⟨qy, hqy⟩ : ∃ q, w4.heap.size = q := ⟨_, rfl⟩
        rw [hqy] at hp ltyp ltyg ltyd ⊢
        have Py := Lib.hid hp
        replace Pp := Lib.hid ((hb.block _ (lt_of Pp.out)).trans Pp.out)
        replace Pg := Lib.hid ((hb.block _ (lt_of Pg.out)).trans Pg.out)
        replace Pd := Lib.hid ((hb.block _ (lt_of Pd.out)).trans Pd.out)
        replace Ep := Lib.hid (Ep.out.grow hb)
        replace Eg := Lib.hid (Eg.out.grow hb)
        replace Ey := Lib.hid (Ey.out.grow hb)
        replace Eo := Lib.hid (Eo.out.grow hb)
        replace HB := Lib.hid (thn HB.out hb)
        clear hwy hp hqy hb
        obtain ⟨d0, d1, d2⟩ := box3 Pd.out
        have dl := lt_of Pd.out
        obtain ⟨⟨g0, g1, g2, g3, g4⟩, gf⟩ := box5 Pg.out
        have gl := lt_of Pg.out
        go_upto_region 20 with (go_at_call 16; (with_reducible refine (KR.out _ _ _ Eg.out).mono ?_); rintro e w5 ⟨A5, c5, A6, c6, rfl, h1, h2, hb, -, -⟩; replace Pp := Lib.hid ((hb.block _ (lt_of Pp.out)).trans Pp.out); replace Pg := Lib.hid ((hb.block _ (lt_of Pg.out)).trans Pg.out); replace Pd := Lib.hid ((hb.block _ (lt_of Pd.out)).trans Pd.out); replace Py := Lib.hid ((hb.block _ (lt_of Py.out)).trans Py.out); replace Ep := Lib.hid (Ep.out.grow hb); replace Eg := Lib.hid (Eg.out.grow hb); replace Ey := Lib.hid (Ey.out.grow hb); replace Eo := Lib.hid (Eo.out.grow hb); replace HB := Lib.hid (thn HB.out hb); have Ez := Lib.hid h1; have Em := Lib.hid h2; clear h1 h2 hb)
        clear d0 d1 d2 dl
        clear g0 g1 g2 g3 g4 gf gl
        have ltzp := lt_of Pp.out
        have ltzg := lt_of Pg.out
        have ltzd := lt_of Pd.out
        have ltzy := lt_of Py.out
        obtain ⟨wz, hwz⟩ : ∃ W, w5.alloc (.cells #[.int .u64 (y.late : Int), .int .i64 (y.room : Int), .int .u64 (y.mark : Int), .int .u64 (y.front : Int), .slice A5 y.evs.length c5] 31) = W := ⟨_, rfl⟩
        have hb : Below w5.heap.size w5 wz := by rw [← hwz]; exact (Below.refl _ w5).alloc (Nat.le_refl _) _
        have hp : wz.heap[w5.heap.size]? = some (.cells #[.int .u64 (y.late : Int), .int .i64 (y.room : Int), .int .u64 (y.mark : Int), .int .u64 (y.front : Int), .slice A5 y.evs.length c5] 31) := by rw [← hwz]; exact heap_alloc_new w5 _
        rw [hwz]
        obtain ⟨qz, hqz⟩ : ∃ q, w5.heap.size = q := ⟨_, rfl⟩
        rw [hqz] at hp ltzp ltzg ltzd ltzy ⊢
        have Pz := Lib.hid hp
        replace Pp := Lib.hid ((hb.block _ (lt_of Pp.out)).trans Pp.out)
        replace Pg := Lib.hid ((hb.block _ (lt_of Pg.out)).trans Pg.out)
        replace Pd := Lib.hid ((hb.block _ (lt_of Pd.out)).trans Pd.out)
        replace Py := Lib.hid ((hb.block _ (lt_of Py.out)).trans Py.out)
        replace Ep := Lib.hid (Ep.out.grow hb)
        replace Eg := Lib.hid (Eg.out.grow hb)
        replace Ey := Lib.hid (Ey.out.grow hb)
        replace Eo := Lib.hid (Eo.out.grow hb)
        replace Ez := Lib.hid (Ez.out.grow hb)
        replace Em := Lib.hid (Em.out.grow hb)
        replace HB := Lib.hid (thn HB.out hb)
        clear hwz hp hqz hb
        obtain ⟨⟨y0, y1, y2, y3, y4⟩, yf⟩ := box5 Py.out
        have yl := lt_of Py.out
        obtain ⟨⟨z0, z1, z2, z3, z4⟩, zf⟩ := box5 Pz.out
        have zl := lt_of Pz.out
        have hlen := HONE.out
        have ks := lsameB_any (y.late : Int) (y.room : Int) (y.mark : Int) (y.front : Int) (y.late : Int) (y.room : Int) (y.mark : Int) (y.front : Int) y.evs y.evs (by omega) wz A3 A5 c3 c5 Ey.out.lies Ez.out.lies
        rw [show bufEqB (y.late : Int) (y.room : Int) (y.mark : Int) (y.front : Int) (y.late : Int) (y.room : Int) (y.mark : Int) (y.front : Int) y.evs y.evs = true by simp [bufEqB]] at ks
        have ke := fun (W : World) (hW : Below wz.heap.size wz W) => revs_any oy oy (by omega) W W.heap.size (Nat.le_refl _) A4 A6 c4 c6 (Eo.out.grow hW).lies (Em.out.grow hW).lies
        simp only [decide_true] at ke
        have KS := Lib.hid ks
        have KE := Lib.hid ke
        have hst := HST.out
        unfold stepM at hst
        dsimp only at hst
        rw [HCC.out] at hst
        have hRR := HR.out
        unfold oneR at hRR
        rw [HCC.out] at hRR
        have hcc : (C != C) = false := by simp
        clear ks ke hlen
        by_cases hC : C = 0
        · have d : (C == 0) = true := by simpa using hC
          rw [if_pos hC] at hst hRR
          rw [hRR] at hst
          dsimp only at hst
          have HST2 := Lib.hid hst
          clear hC hst hRR HST
          go_upto_region 23 with (first
          | (go_at_call 13; (with_reducible refine KS.out.mono ?_); rintro e w6 ⟨rfl, hb⟩; have HS := Lib.hid hb; replace Pp := Lib.hid ((hb.block _ (lt_of Pp.out)).trans Pp.out); replace Pg := Lib.hid ((hb.block _ (lt_of Pg.out)).trans Pg.out); replace Pd := Lib.hid ((hb.block _ (lt_of Pd.out)).trans Pd.out); replace Py := Lib.hid ((hb.block _ (lt_of Py.out)).trans Py.out); replace Pz := Lib.hid ((hb.block _ (lt_of Pz.out)).trans Pz.out); replace Ep := Lib.hid (Ep.out.grow hb); replace Eg := Lib.hid (Eg.out.grow hb); replace Ey := Lib.hid (Ey.out.grow hb); replace Eo := Lib.hid (Eo.out.grow hb); replace Ez := Lib.hid (Ez.out.grow hb); replace Em := Lib.hid (Em.out.grow hb); replace HB := Lib.hid (thn HB.out hb); clear hb)
          | (go_at_call 14; (with_reducible refine (KE.out _ HS.out).mono ?_); rintro e w7 ⟨rfl, hb⟩; replace Pp := Lib.hid ((hb.block _ (lt_of Pp.out)).trans Pp.out); replace Pg := Lib.hid ((hb.block _ (lt_of Pg.out)).trans Pg.out); replace Pd := Lib.hid ((hb.block _ (lt_of Pd.out)).trans Pd.out); replace Py := Lib.hid ((hb.block _ (lt_of Py.out)).trans Py.out); replace Pz := Lib.hid ((hb.block _ (lt_of Pz.out)).trans Pz.out); replace Ep := Lib.hid (Ep.out.grow hb); replace Eg := Lib.hid (Eg.out.grow hb); replace Ey := Lib.hid (Ey.out.grow hb); replace Eo := Lib.hid (Eo.out.grow hb); replace Ez := Lib.hid (Ez.out.grow hb); replace Em := Lib.hid (Em.out.grow hb); replace HB := Lib.hid (thn HB.out hb); clear hb))
          clear y0 y1 y2 y3 y4 yf yl
          clear z0 z1 z2 z3 z4 zf zl
          obtain ⟨⟨y0, y1, y2, y3, y4⟩, yf⟩ := box5 Py.out
          have yl := lt_of Py.out
          obtain ⟨⟨p0, p1, p2, p3, p4⟩, pf⟩ := box5 Pp.out
          have pl := lt_of Pp.out
          obtain ⟨W5, hW5, q5, g5⟩ := fin5 Pp.out (.int .u64 (y.late : Int)) (.int .i64 (y.room : Int)) (.int .u64 (y.mark : Int)) (.int .u64 (y.front : Int)) (.slice A3 y.evs.length c3)
          have r5 := (g5.block _ (lt_of Pz.out) (by simp; omega)).trans Pz.out
          have s5 := (g5.block _ (lt_of Pg.out) (by simp; omega)).trans Pg.out
          have ey5 := Ey.out.other g5 Pp.out (by decide)
          have ez5 := Ez.out.other g5 Pp.out (by decide)
          have b5 := below_row HB.out g5 hpw
          obtain ⟨W6, hW6, q6, g6⟩ := fin5 s5 (.int .u64 (y.late : Int)) (.int .i64 (y.room : Int)) (.int .u64 (y.mark : Int)) (.int .u64 (y.front : Int)) (.slice A5 y.evs.length c5)
          have p6 := (g6.block _ (lt_of q5) (by simp; omega)).trans q5
          have ey6 := ey5.other g6 s5 (by decide)
          have ez6 := ez5.other g6 s5 (by decide)
          have b6 := below_row b5 g6 hqw
          obtain ⟨⟨v0, v1, v2, v3, v4⟩, vf⟩ := box5 r5
          obtain ⟨⟨x0, x1, x2, x3, x4⟩, xf⟩ := box5 s5
          have vl := lt_of r5
          have xl := lt_of s5
          have HW5 := Lib.hid hW5
          have HW6 := Lib.hid hW6
          have Q6 := Lib.hid q6
          have P6 := Lib.hid p6
          have EY6 := Lib.hid ey6
          have EZ6 := Lib.hid ez6
          have B6 := Lib.hid b6
          clear hW5 hW6 q5 q6 p6 ey5 ez5 ey6 ez6 b5 b6 g5 g6 r5 s5
          go_upto_region 24 with (fail)
          rw [HW5.out]
          go_wp2
          rw [HW6.out]
          refine ⟨⟨j + 1, A3, c3, A5, c5, by go_num, hlt1, hlt2, Lib.hid ?_, Lib.hid ?_, B6⟩, by simp [intOf]; omega⟩
          · rw [HST2.out]
            exact ⟨P6.out, EY6.out⟩
          · rw [HST2.out]
            exact ⟨Q6.out, EZ6.out⟩
        · have d : (C == 0) = false := by simpa using hC
          rw [if_neg hC] at hst
          have HST2 := Lib.hid hst
          clear hC hst hRR HST
          go_wp2_with (first
          | (go_at_call 13; (with_reducible refine KS.out.mono ?_); rintro e w6 ⟨rfl, hb⟩; have HS := Lib.hid hb; replace Pp := Lib.hid ((hb.block _ (lt_of Pp.out)).trans Pp.out); replace Pg := Lib.hid ((hb.block _ (lt_of Pg.out)).trans Pg.out); replace Pd := Lib.hid ((hb.block _ (lt_of Pd.out)).trans Pd.out); replace Py := Lib.hid ((hb.block _ (lt_of Py.out)).trans Py.out); replace Pz := Lib.hid ((hb.block _ (lt_of Pz.out)).trans Pz.out); replace Ep := Lib.hid (Ep.out.grow hb); replace Eg := Lib.hid (Eg.out.grow hb); replace Ey := Lib.hid (Ey.out.grow hb); replace Eo := Lib.hid (Eo.out.grow hb); replace Ez := Lib.hid (Ez.out.grow hb); replace Em := Lib.hid (Em.out.grow hb); replace HB := Lib.hid (thn HB.out hb); clear hb)
          | (go_at_call 14; (with_reducible refine (KE.out _ HS.out).mono ?_); rintro e w7 ⟨rfl, hb⟩; replace Pp := Lib.hid ((hb.block _ (lt_of Pp.out)).trans Pp.out); replace Pg := Lib.hid ((hb.block _ (lt_of Pg.out)).trans Pg.out); replace Pd := Lib.hid ((hb.block _ (lt_of Pd.out)).trans Pd.out); replace Py := Lib.hid ((hb.block _ (lt_of Py.out)).trans Py.out); replace Pz := Lib.hid ((hb.block _ (lt_of Pz.out)).trans Pz.out); replace Ep := Lib.hid (Ep.out.grow hb); replace Eg := Lib.hid (Eg.out.grow hb); replace Ey := Lib.hid (Ey.out.grow hb); replace Eo := Lib.hid (Eo.out.grow hb); replace Ez := Lib.hid (Ez.out.grow hb); replace Em := Lib.hid (Em.out.grow hb); replace HB := Lib.hid (thn HB.out hb); clear hb))
          refine ⟨⟨j + 1, A1, c1, A2, c2, by go_num, hlt1, hlt2, Lib.hid ?_, Lib.hid ?_, HB⟩, by simp [intOf]; omega⟩
          · rw [HST2.out]
            exact ⟨Pp.out, Ep.out⟩
          · rw [HST2.out]
            exact ⟨Pg.out, Eg.out⟩
    · have hlt3 : ¬ ((j : Int) < 40 ∧ (j : Int) < len2) := by omega
      obtain ⟨⟨b, ob⟩, hs⟩ : ∃ s, madeM lt rm (l.take j) = s := ⟨_, rfl⟩
      rw [hs] at HV1 HV2 hmy
      dsimp only at HV1 HV2 hmy
      have hfew : b.evs.length ≤ 1024 := by have := hmy.few; have := hmy.room; omega
      obtain ⟨⟨p0, p1, p2, p3, p4⟩, pf⟩ := box5 HV1.out.1
      obtain ⟨⟨g0, g1, g2, g3, g4⟩, gf⟩ := box5 HV2.out.1
      have pl := lt_of HV1.out.1
      have gl := lt_of HV2.out.1
      have k0 := cell_below pl p0
      have k1 := cell_below pl p1
      have k2 := cell_below pl p2
      have k3 := cell_below pl p3
      have k4 := cell_below pl p4
      have k5 := cell_below gl g0
      have k6 := cell_below gl g1
      have k7 := cell_below gl g2
      have k8 := cell_below gl g3
      have k9 := cell_below gl g4
      have j1 := fun (pp : BelowBy wr) => lsameB_any (b.late : Int) (b.room : Int) (b.mark : Int) (b.front : Int) (b.late : Int) (b.room : Int) (b.mark : Int) (b.front : Int) b.evs b.evs (by omega) pp.w' A1 A2 c1 c2 (HV1.out.2.grow pp.h).lies (HV2.out.2.grow pp.h).lies
      have j2 := fun (pp : BelowBy wr) => bweight_any (b.late : Int) (b.room : Int) (b.mark : Int) (b.front : Int) b.evs (by omega) pp.w' A1 c1 (HV1.out.2.grow pp.h).lies
      have j3 := fun (pp : BelowBy wr) => rweight_any (b.late : Int) (b.room : Int) (b.mark : Int) (b.front : Int) b.evs (by omega) pp.w' A2 c2 (HV2.out.2.grow pp.h).lies
      rw [show bufEqB (b.late : Int) (b.room : Int) (b.mark : Int) (b.front : Int) (b.late : Int) (b.room : Int) (b.mark : Int) (b.front : Int) b.evs b.evs = true by simp [bufEqB]] at j1
      generalize (wOf b.evs : Int) = G at j2 j3
      have hG1 : ∀ G : Int, (G == G) = true := fun G => by simp
      have J1 := Lib.hid j1
      have J2 := Lib.hid j2
      have J3 := Lib.hid j3
      clear j1 j2 j3 p0 p1 p2 p3 p4 g0 g1 g2 g3 g4
      by_cases hj9 : (j : Int) < 40
      all_goals
        have hj8 : True := trivial
        go_upto_region 25 with (fail)
        all_goals
          refine wp_region_below (by kernel_rfl) (by kernel_rfl) ?_
          repeat (quiet_step (first
            | (go_at_call 13; exact below_of (J1.out _))
            | (go_at_call 17; exact below_of (J2.out _))
            | (go_at_call 18; exact below_of (J3.out _))))
          refine wpQuiet_nil ?_
          intro _ hw'
          obtain ⟨pq, hw''⟩ := hw'
          subst hw''
          go_wp2
          go_ret
          exact ⟨rfl, thn HB.out pq.h⟩

set_option maxRecDepth 100000 in
theorem lifted (os : Os) (started : os.Started) (H : Type) (enc : TypeId × Value → H) :
    ReturnsInHanded {} Try.checked os 3 .any (Rows.bufferPlaysSpec.pre6 enc Try.prog Try.f3 Rows.bufferPlaysRow.domain false) (Rows.bufferPlaysSpec.post enc Try.prog Try.f3 false true false false) := by
  refine returnsInHanded_of_change (C := Try.checked) own started (by kernel_rfl) Try.func3
    (ChangeSpec.witness6 (enc := enc) (C := Try.checked) false ⟨#[], #[.int .u64 0, .int .i64 0, .slice none 0 0], []⟩ 8 (by kernel_rfl) (by kernel_rfl) (by kernel_rfl) (by kernel_rfl)) ?_
  intro W base args ds gs before hval0 hW hcnd _
  have hval : ∀ (j : Nat) t v, Try.f3.params[j]? = some t → args[j]? = some v → Value.okWide Try.prog W .any base t v := hval0
  have hW' := hW
  obtain ⟨p, q, hA0, hV, rfl, hfz, hnd⟩ := hW
  have hA : DataW.TrodAll enc Try.prog W 0 (fun _ => true) true Try.f3.params.toList args.toList ds p := hA0
  rw [Try.params3] at hA hval
  obtain ⟨v0, vs0, d0, ds0, p0, q0, hargs, rfl, rfl, h0, r0⟩ := trodAll_cons hA
  obtain ⟨v1, vs1, d1, ds1, p1, q1, rfl, rfl, rfl, h1, r1⟩ := trodAll_cons r0
  obtain ⟨v2, vs2, d2, ds2, p2, q2, rfl, rfl, rfl, h2, r2⟩ := trodAll_cons r1
  obtain ⟨rfl, rfl, rfl⟩ := trodAll_nil r2
  obtain rfl : args = #[v0, v1, v2] := by cases args; simp_all
  obtain ⟨rfl, rfl⟩ := trodVars_none hV
  obtain ⟨a0, rfl, rfl, rfl, w0⟩ := open_int Try.underlying22 (hval 0 22 v0 rfl rfl) h0
  obtain ⟨a1, rfl, rfl, rfl, w1⟩ := open_int Try.underlying3 (hval 1 3 v1 rfl rfl) h1
  obtain ⟨a2, len2, cap2, rfl⟩ := okWide_slice Try.underlying23 (hval 2 23 v2 rfl rfl)
  have k2 := h2
  have lt2 : ∀ x ∈ p2, x.block < W.heap.size := by obtain ⟨m, hm⟩ := k2; exact DataW.trod_lt m _ _ _ hm
  obtain ⟨z2, w2⟩ := Op.open_flats (f := 9) (ks := [.u64, .u64, .u64]) Try.underlying23 (by kernel_rfl) (by kernel_rfl) (by decide) h2
  clear hA0 hval0
  refine (walk a0 a1 a2 len2 cap2 z2 W w0 w1 w2).mono fun e W' ⟨he, bel⟩ => ?_
  subst he
  exact ⟨_, rfl, _, _, _, [], _, [], hW', trodAll_mk1 (shut_bool Try.underlying4 _), (trodAll_cons_mk (shut_int Try.underlying22 w0) (trodAll_cons_mk (shut_int Try.underlying3 w1) (trodAll_cons_mk (Below.trod laidOut (by kernel_rfl) (of_decide_eq_true (by kernel_rfl)) k2 bel lt2) trodAll_mk0))), rfl, bel.frame _, fun h => by cases h⟩

theorem over : Rows.bufferPlaysRow.holds Try.pinned (OpenSpec.ofChange Rows.bufferPlaysSpec) :=
  OpenClaim.holds_of_wide 3 Try.f3 rfl rfl rfl rfl rfl rfl rfl ⟨rfl, rfl, rfl, rfl, rfl⟩ rfl rfl rfl rfl rfl (by kernel_rfl) Try.func3 (by kernel_rfl)
    (of_decide_eq_true (by kernel_rfl)) (by unfold Func.isWrapper; first | (rw [if_pos (by decide +kernel)]; kernel_rfl) | (rw [if_neg (by decide +kernel)]; exact ⟨rfl, rfl⟩))
    (fun os started H enc _ => lifted os started H enc)

/-- The statement. -/
theorem proved : Rows.BufferPlaysSaid := over
#print axioms proved
end Go.Proofs.Ytienfdnlekfmmaa.bufferPlays
