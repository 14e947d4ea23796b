/-
  'skylight/skylightlaw12.BufferTurn' returns true for every input, and the input reads afterwards as it read before. Conditions: none.
-/
import Derived.Test.YtienfdnlekfmmaaRows
import Derived.WalkKit
import Derived.ProofKit
import Derived.OpenShut
import Derived.ShutString
import Derived.ChangeOld
import Derived.Below
import Derived.Test.YtienfdnlekfmmaaJ01
import Derived.Test.YtienfdnlekfmmaaJ16
namespace Go.Proofs.Ytienfdnlekfmmaa.bufferTurn
open Go.Proofs Go.Proofs.Op Go.Proofs.Rw Go.Proofs.Lm Go.Proofs.Lh Go.Proofs.Rn Go.Proofs.Rf Go.Proofs.Bu
open Go.ChangeShapes Go.WideShapes Go.ChangeAt Go.RowKit
open Go.ChangeMaps (open_string shut_string)
set_option linter.unusedVariables false

theorem own : ownKnob Try.prog.godebug = none := by kernel_rfl
theorem laidOut : laidOutB Try.prog = true := by kernel_rfl

/-- A slice of integers that came in: nil, or a row of cells of its capacity, each fitting its kind. -/
def IsRow (k : IntKind) (w : World) (a : Option Addr) (len cap : Nat) (zs : List Int) : Prop :=
  (a = none ∧ len = 0 ∧ cap = 0 ∧ zs = []) ∨
  ∃ x, a = some x ∧ len ≤ cap ∧ cap ≤ maxLen ∧ zs.length = cap ∧ (∀ i, i < zs.length → w.cell? (x.add i) = some (.int k (zs.getD i 0))) ∧ ∀ n ∈ zs, (Lit.int k n).wf = true

open Go.RowKit Go.Shelf Go.Proofs.Rw Go.Proofs.Lh Go.Proofs.Bu
set_option linter.unusedVariables false
theorem int_at {k : IntKind} {w : World} {a : Option Addr} {len cap : Nat} {zs : List Int} (h : IsRow k w a len cap zs) (h0 : 0 < len) : ∃ b off, a = some ⟨b, off, none⟩ ∧ b < w.heap.size ∧ ∀ i, i < len → w.cell? ⟨b, off + i, none⟩ = some (.int k (zs.getD i 0)) ∧ (Lit.int k (zs.getD i 0)).wf = true := by
  rcases h with ⟨_, e, _⟩ | ⟨x, rfl, h1, h2, h3, h4, h5⟩
  · omega
  obtain ⟨b, off, s⟩ := x
  have h40 := h4 0 (by omega)
  have hs : s = none := by
    cases s with
    | none => rfl
    | some s =>
      simp only [World.cell?, Addr.add] at h40
      split at h40
      · simp at h40
      · cases h40
  subst hs
  refine ⟨b, off, rfl, ?_, fun i hi => ⟨?_, ?_⟩⟩
  · exact World.block_lt_of_cell? w _ h40
  · have := h4 i (by omega)
    rw [Addr.add_lit] at this
    exact this
  · have hl : i < zs.length := by omega
    rw [show zs.getD i 0 = zs[i] by simp [List.getD, List.getElem?_eq_getElem hl]]
    exact h5 _ (List.getElem_mem hl)
theorem bounds_u16 {n : Int} (h : (Lit.int .u16 n).wf = true) : 0 ≤ n ∧ n ≤ 65535 := by
  simp [Lit.wf, IntKind.min, IntKind.max, IntKind.signed, IntKind.bits] at h
  omega

set_option maxRecDepth 100000 in
set_option maxHeartbeats 4000000 in
theorem walk (a0 : Int) (a1 : Int) (a2 : Option Addr) (len2 cap2 : Nat) (z2 : List Int) (w : World) (w0 : (Lit.int .u64 a0).wf = true) (w1 : (Lit.int .i64 a1).wf = true) (w2 : IsRow .u16 w a2 len2 cap2 z2) :
    Calls Try.prog 5 #[.int .u64 a0, .int .i64 a1, .slice a2 len2 cap2] w fun e w' => e = .returned (.bool true) ∧ Below w.heap.size w w' := by
  obtain ⟨b0, b1⟩ := bounds_u64 w0
  obtain ⟨r0, r1⟩ := bounds_i64 w1
  have hle := lateOf_eq a0 b0
  have hre := roomOf2_eq a1
  have hrl := roomOf2_le a1
  obtain ⟨lt, hlt⟩ : ∃ x, lateOf a0 = x := ⟨_, rfl⟩
  obtain ⟨rm, hrm⟩ : ∃ x, roomOf2 a1 = x := ⟨_, rfl⟩
  rw [hlt] at hle
  rw [hrm] at hre hrl
  have hcf : confB (lt : Int) (rm : Int) = true := by simp [confB]; omega
  have kn : ∀ (l r : Int) (W : World), l = (lt : Int) → r = (rm : Int) → Calls Try.prog 10 #[.int .u64 l, .int .i64 r] W fun e w' => e = .returned (.tuple #[bval (lt : Int) (rm : Int) 0 0 (.slice none 0 0), .int .i64 0]) ∧ Below W.heap.size W w' := fun l r W h1 h2 => by
    have h := bnew_any l r W
    rw [h1, h2, newV_yes hcf] at h
    rw [h1, h2]
    exact h
  have ht0 := ti_start (late := lt) (room := rm) (by omega) hrl.1 (by omega)
  have KN := Lib.hid kn
  have HT0 := Lib.hid ht0
  have HRE := Lib.hid hre
  have HLE := Lib.hid hle.1
  have HROW := Lib.hid w2
  have HB := Lib.hid (Below.refl w.heap.size w)
  clear w0 w1 w2 kn ht0 hre hle hlt hrm hcf hrl
  by_cases h40 : (len2 : Int) ≤ 40
  · go_enter Try.func5, Try.ntmps5
    go_upto_region 4 with (go_at_call 9; (with_reducible refine (bawake_any _).mono ?_); rintro e w1 ⟨rfl, hb⟩; replace HB := Lib.hid (thn HB.out hb); clear hb)
    go_cut [8, 9] from 18 to 32 (fun s8 s9 wx => ∃ p : Nat, s8 = .pointer (some ⟨p, 0, none⟩) ∧ w.heap.size ≤ p ∧ Hid (wx.heap[p]? = some (.cells #[.int .u64 (lt : Int), .int .i64 (rm : Int), .int .u64 0, .int .u64 0, .slice none 0 0] 27)) ∧ Hid (Below w.heap.size w wx))
    case first =>
      by_cases h : 0 ≤ a1
      · go_wp2_with (go_at_call 10; (with_reducible refine (KN.out _ _ _ (by exact HLE.out.symm) (by have := HRE.out; rw [this, Int.max_eq_left h])).mono ?_); rintro e w2 ⟨rfl, hb⟩; have HB2 := Lib.hid (thn HB.out hb); clear hb)
        go_meet
        case rel => exact ⟨w2.heap.size, rfl, HB2.out.size, Lib.hid (heap_alloc_new w2 _), Lib.hid (HB2.out.alloc HB2.out.size _)⟩
      · go_wp2_with (go_at_call 10; (with_reducible refine (KN.out _ _ _ (by exact HLE.out.symm) (by have := HRE.out; omega)).mono ?_); rintro e w2 ⟨rfl, hb⟩; have HB2 := Lib.hid (thn HB.out hb); clear hb)
        go_meet
        case rel => exact ⟨w2.heap.size, rfl, HB2.out.size, Lib.hid (heap_alloc_new w2 _), Lib.hid (HB2.out.alloc HB2.out.size _)⟩
    case rest =>
    obtain ⟨p, rfl, hpw, HP, HB⟩ := hcut
    rename World => wx
    clear HRE HLE KN
    go_wp2
    go_loopw [10, 11, 12] (fun s10 s11 s12 wr => ∃ (j : Nat) (bb : Bf) (A1 : Option Addr) (c1 : Nat) (ol : List Ev), s12 = .int .i64 (j : Int) ∧ j ≤ len2 ∧ s11 = .int .u64 (Bu.wsum (ol ++ bb.evs) : Int) ∧ Hid (TI j bb ol) ∧ Hid (VarB 27 wr p A1 c1 bb) ∧ Hid (OwnE wr w.heap.size s10 ol) ∧ Hid (Off A1 s10) ∧ Hid (Below w.heap.size w wr)) (fun _ _ s12 _ => len2 - (intOf s12).toNat)
    case atStart => exact ⟨0, freshB lt rm, none, 0, [], rfl, Nat.zero_le _, rfl, HT0, Lib.hid ⟨HP.out, Evs.none _⟩, Lib.hid (World.ownsRow_nil _ _ _ _), Lib.hid (fun _ _ e => by cases e), HB⟩
    case round =>
      obtain ⟨j, bb, A1, c1, ol, rfl, hj, rfl, HT, HV, HO, HOF, HB⟩ := hrel
      by_cases hlt2 : j < len2
      · obtain ⟨b, off, rfl, hb, hc⟩ := int_at HROW.out (by omega)
        obtain ⟨q0', qw⟩ := hc j hlt2
        obtain ⟨u0, u1⟩ := bounds_u16 qw
        obtain ⟨n, hn⟩ : ∃ n : Nat, z2.getD j 0 = (n : Int) := ⟨(z2.getD j 0).toNat, by omega⟩
        rw [hn] at q0' u0 u1
        have q0 := (HB.out.cell (p := ⟨b, off + j, none⟩) hb).trans q0'
        have hbb : b < wr.heap.size := Nat.lt_of_lt_of_le hb HB.out.size
        have hmy := HT.out.may
        have hcall := fun (W : World) (hW : Below wr.heap.size wr W) => bpush_at bb (may_ok hmy) (may_lt hmy) (n, j, j + 1) (j : Int) ((j : Int) + 1) rfl (by dsimp only; omega) W A1 c1 (HV.out.2.grow hW)
        obtain ⟨⟨x0, x1, x2, x3, x4⟩, fx⟩ := box5 HV.out.1
        have lv := lt_of HV.out.1
        obtain ⟨R, hR⟩ : ∃ R, pushR bb (n, j, j + 1) = R := ⟨_, rfl⟩
        obtain ⟨C, hC⟩ : ∃ C, pushC bb (n, j, j + 1) = C := ⟨_, rfl⟩
        rw [hR, hC] at hcall
        have HR := Lib.hid hR
        have HCC := Lib.hid hC
        have hsm : Bu.wsum (ol ++ bb.evs) ≤ 100 * j := HT.out.sum
        obtain ⟨sm, hsm'⟩ : ∃ s, Bu.wsum (ol ++ bb.evs) = s := ⟨_, rfl⟩
        rw [hsm'] at hsm ⊢
        have HSM := Lib.hid hsm'
        obtain ⟨⟨ml, mr, mm, mf, ms⟩, mo⟩ := R
        obtain ⟨sl, sr, sm', sf, ss⟩ := bb
        unfold ToldC bufV bval at hcall
        dsimp only at hcall x0 x1 x2 x3 x4
        obtain ⟨NM, hNM⟩ : ∃ N, ms.length = N := ⟨_, rfl⟩
        obtain ⟨NO, hNO⟩ : ∃ N, mo.length = N := ⟨_, rfl⟩
        obtain ⟨NS, hNS⟩ : ∃ N, ss.length = N := ⟨_, rfl⟩
        rw [hNM, hNO, hNS] at hcall
        rw [hNS] at x4
        have HC := Lib.hid hcall
        have HNM := Lib.hid hNM
        have HNO := Lib.hid hNO
        have HNS := Lib.hid hNS
        have hj40 : (j : Int) < 40 := by omega
        have hwn : IntKind.u64.wrap (n : Int) = (n : Int) := by rw [IntKind.wrap_u64]; omega
        have hwj : IntKind.u64.wrap (j : Int) = (j : Int) := by rw [IntKind.wrap_u64]; omega
        have hwj1 : IntKind.u64.wrap ((j : Int) + 1) = (j : Int) + 1 := by rw [IntKind.wrap_u64]; omega
        clear hcall hNM hNO hNS hR hC hmy hc q0' qw hn hsm'
        go_upto_region 10 with (fail)
        go_cut [13, 14, 15] from 33 to 55 (fun s13 s14 s15 wy => Laid 27 wr wy A1 s13 s14 s15 (⟨ml, mr, mm, mf, ms⟩, mo) C)
        case first =>
          go_region_law (go_simp; (with_reducible refine (HC.out _ (by first | exact (Below.refl _ wr).drew | exact ((Below.refl _ wr).alloc (Nat.le_refl _) _).drew)).mono ?_); rintro r w1 ⟨A2, c2, A3, c3, rfl, hv1, hv2, hb, hf1, hf2⟩; (try (have a2 := (hb.block wr.heap.size (by simp)).trans (heap_alloc_new wr _); obtain ⟨⟨u0, u1, u2, u3, u4⟩, fu⟩ := box5 a2; have lu := lt_of a2; have QA := Lib.hid a2; clear a2)); have HV1 := Lib.hid hv1; have HV2 := Lib.hid hv2; have HB1 := Lib.hid hb; have HF1 := Lib.hid hf1; have HF2 := Lib.hid hf2; clear hv1 hv2 hb hf1 hf2; dsimp only)
          all_goals
            go_wp2
            go_meet
            case rel =>
              rw [← HNM.out, ← HNO.out]
              first
                | (with_reducible refine laid_after (r := (⟨ml, mr, mm, mf, ms⟩, mo)) (T := 27) ?_ HB1.out HV1.out HV2.out HF1.out HF2.out)
                | (with_reducible refine laid_before (r := (⟨ml, mr, mm, mf, ms⟩, mo)) (T := 27) (by decide) ?_ (Nat.le_refl _) QA.out HB1.out HV1.out HV2.out HF1.out HF2.out)
              first
                | exact (Below.refl _ wr).drew
                | exact ((Below.refl _ wr).alloc (Nat.le_refl _) _).drew
        case rest =>
          obtain ⟨pz, A2, c2, A3, c3, rfl, hp, hv1, rfl, hv2, rfl, hb1, hf1, hf2⟩ := hcut
          rename World => wy
          have hq := hv1.1
          dsimp only at hq
          rw [HNM.out] at hq
          obtain ⟨⟨y0, y1, y2, y3, y4⟩, fy⟩ := box5 hq
          have lp := lt_of hq
          have hv := (hb1.block _ (lt_of HV.out.1)).trans HV.out.1
          dsimp only at hv
          rw [HNS.out] at hv
          obtain ⟨⟨z0, z1, z2', z3, z4⟩, fz⟩ := box5 hv
          have lz := lt_of hv
          have HO1 := Lib.hid (own_below HO.out hb1)
          have HB1 := Lib.hid (thn HB.out hb1)
          have hR := HR.out
          unfold pushR at hR
          rw [HCC.out] at hR
          by_cases hC : C = 0
          · rw [if_pos hC] at hR
            have d : (C == 0) = true := by simpa using hC
            have hti := ti_push HT.out (by omega) (t := n) (by rw [HCC.out, hC])
            rw [hR, HSM.out] at hti
            dsimp only at hti
            obtain ⟨W5, hW5, q5, g5⟩ := fin5 hv (.int .u64 (ml : Int)) (.int .i64 (mr : Int)) (.int .u64 (mm : Int)) (.int .u64 (mf : Int)) (.slice A2 NM c2)
            have ev5 := hv1.2.other g5 hv (by decide)
            have o5 : OwnE W5 w.heap.size u10 ol := HO1.out.kept g5 (.inr (own_ne HO1.out hv (by decide)))
            have l5 := (hv2.other g5 hv (by decide)).lies
            have b5 := below_row HB1.out g5 hpw
            have of5 : Off A2 u10 := off_from (w := w) HO.out HOF.out hf1
            have hln : ol.length + mo.length ≤ 10000000 := by have := hti.1.len; rw [List.length_append, List.length_append] at this; omega
            have HW5 := Lib.hid hW5
            have Q5 := Lib.hid q5
            have EV5 := Lib.hid ev5
            have O5 := Lib.hid o5
            have L5 := Lib.hid l5
            have B5 := Lib.hid b5
            have OF5 := Lib.hid of5
            have HLN := Lib.hid hln
            have HTI := Lib.hid hti
            rw [HNO.out] at L5
            clear hC hR hW5 q5 g5 ev5 o5 l5 b5 of5 hln hv1 hv2 hq hv hb1 hf1 hf2 hti
            go_upto_region 13 with (fail)
            rw [HW5.out]
            go_wp2_with (at_builtin; refine wpList_app2 33 _ 24 info_event Try.underlying25 rfl (by decide) (by decide) _ rfl _ _ rfl w.heap.size _ _ ol mo _ rfl O5.out rfl (by rw [HNO.out]; exact L5.out) (ev_one _) HLN.out B5.out.size ?_; intro v' w6 ho6 hg6 hat; have HO6 := Lib.hid ho6; have HG6 := Lib.hid hg6; have HAT := Lib.hid hat; clear ho6 hg6 hat)
            have hg6 : W5.grownBy w6 u10.ownBlock := HG6.out
            have hat : v'.ownBlock = u10.ownBlock ∨ v'.ownBlock = some W5.heap.size := HAT.out
            have q6 := (hg6.block _ (lt_of Q5.out) (Ne.symm (own_ne O5.out Q5.out (by decide)))).trans Q5.out
            refine ⟨⟨j + 1, ⟨ml, mr, mm, mf, ms⟩, A2, c2, ol ++ mo, by go_num, hlt2, ?_, Lib.hid HTI.out.1, Lib.hid ⟨?_, off_row OF5.out EV5.out hg6⟩, HO6, Lib.hid (off_next OF5.out EV5.out hat), Lib.hid (B5.out.grown hg6 B5.out.size (fun q hq => (O5.out.lt q hq).1))⟩, by simp [intOf]; omega⟩
            · have := HTI.out.2
              dsimp only
              rw [this]
              first | (congr 1; done) | (congr 1; omega)
            · dsimp only
              rw [HNM.out]
              exact q6
          · have d : (C == 0) = false := by simpa using hC
            have VG := Lib.hid (HV.out.grow hb1)
            have HT2 := Lib.hid (ti_skip HT.out)
            clear hC hR hv1 hv2 hq hv hb1 hf1 hf2
            go_wp2
            exact ⟨⟨j + 1, ⟨sl, sr, sm', sf, ss⟩, A1, c1, ol, by go_num, hlt2, by rw [HSM.out], HT2, VG, HO1, HOF, HB1⟩, by simp [intOf]; omega⟩
      · have e : j = len2 := by omega
        subst e
        obtain ⟨⟨x0, x1, x2, x3, x4⟩, fx⟩ := box5 HV.out.1
        have lv := lt_of HV.out.1
        obtain ⟨L, hL⟩ : ∃ L, ol ++ bb.evs = L := ⟨_, rfl⟩
        have htn := HT.out.tn
        have hsm := HT.out.sum
        have hln := HT.out.len
        have hcp : ol.length + bb.evs.length ≤ 10000000 := by rw [List.length_append] at hln; omega
        rw [hL] at htn hsm hln ⊢
        have HL := Lib.hid hL
        have HTN := Lib.hid htn
        have HCP := Lib.hid hcp
        have LE := Lib.hid HV.out.2.lies
        obtain ⟨sm, hsm'⟩ : ∃ s, Bu.wsum L = s := ⟨_, rfl⟩
        rw [hsm'] at hsm ⊢
        have HSM := Lib.hid hsm'
        clear hL htn hcp hsm'
        go_wp2_with (at_builtin; refine wpList_app2 33 _ 24 info_event Try.underlying25 rfl (by decide) (by decide) _ rfl _ _ rfl w.heap.size _ _ ol bb.evs _ rfl HO.out rfl LE.out (ev_one _) HCP.out HB.out.size ?_; intro v' w6 ho6 hg6 hat; have HB6 := Lib.hid (HB.out.grown hg6 HB.out.size (fun q hq => (HO.out.lt q hq).1)); rw [HL.out] at ho6; have HO6 := Lib.hid ho6; clear ho6 hg6 hat)
        obtain ⟨Ag, cg, hvf, -, -⟩ := own_form HO6.out
        subst hvf
        have LL := Lib.hid (Evs.of_own HO6.out).lies
        obtain ⟨NL, hNL⟩ : ∃ N, L.length = N := ⟨_, rfl⟩
        rw [hNL] at hln LL ⊢
        have HNL := Lib.hid hNL
        clear hNL x0 x1 x2 x3 x4 fx lv
        go_loopw [16, 17] (fun s16 s17 wq => ∃ i : Nat, s17 = .int .i64 (i : Int) ∧ i ≤ NL ∧ s16 = .int .u64 (Bu.wsum (L.take i) : Int) ∧ Hid (Below w6.heap.size w6 wq)) (fun _ s17 _ => NL - (intOf s17).toNat)
        case atStart => exact ⟨0, rfl, Nat.zero_le _, rfl, Lib.hid (Below.refl _ _)⟩
        case round =>
          obtain ⟨i, rfl, hi, rfl, HQ⟩ := hrel
          by_cases hlt3 : i < NL
          · have hil : i < L.length := by rw [HNL.out]; exact hlt3
            obtain ⟨g, off, rfl, hg, -, hc⟩ := ev_at (LL.out.below HQ.out) (by omega)
            obtain ⟨q0, q1, q2⟩ := hc i hil
            have hws := wsum_step hil
            have hwl := wsum_take_le L (i + 1)
            rw [HSM.out] at hwl
            obtain ⟨t0, ht0⟩ : ∃ x, L[i].1 = x := ⟨_, rfl⟩
            obtain ⟨t1, ht1⟩ : ∃ x, L[i].2.1 = x := ⟨_, rfl⟩
            obtain ⟨t2, ht2⟩ : ∃ x, L[i].2.2 = x := ⟨_, rfl⟩
            obtain ⟨s, hs⟩ : ∃ x, Bu.wsum (L.take i) = x := ⟨_, rfl⟩
            rw [ht0] at q0
            rw [ht1] at q1
            rw [ht2] at q2 hws
            rw [hs] at hws ⊢
            have hgb := Nat.lt_of_lt_of_le hg HQ.out.size
            have hsb : s + t2 ≤ 4000 := by omega
            have hw : IntKind.u64.wrap ((s : Int) + (t2 : Int)) = (s : Int) + (t2 : Int) := by rw [IntKind.wrap_u64]; omega
            have HWS := Lib.hid hws
            have hib : i < 100 := by omega
            have HQ2 := Lib.hid (thn HB6.out HQ.out)
            cases i with
            | zero =>
              clear hc hws hwl ht0 ht1 ht2 hs hil
              go_upto_region 21 with (fail)
              go_quiet (fail)
              go_wp2
              exact ⟨⟨1, by go_num, by omega, by rw [HWS.out]; congr 1, Lib.hid (below_drewN HQ.out _)⟩, by simp [intOf]; omega⟩
            | succ k =>
              have hkl : k < L.length := by omega
              obtain ⟨p0, p1, p2⟩ := hc k hkl
              have hpr := tn_pair HTN.out hil
              obtain ⟨v0, hv0⟩ : ∃ x, L[k].1 = x := ⟨_, rfl⟩
              obtain ⟨v1, hv1⟩ : ∃ x, L[k].2.1 = x := ⟨_, rfl⟩
              rw [hv0] at p0 hpr
              rw [hv1] at p1 hpr
              rw [ht0, ht1] at hpr
              have hkn : (k : Int) < NL := by omega
              have d1 : decide (t0 < v0) = false := decide_eq_false (by omega)
              have d0 : decide (0 < k + 1) = true := by simp
              clear hc hws hwl ht0 ht1 ht2 hs hil hv0 hv1 hkl p2
              by_cases heq : v0 = t0
              · have d2 : ((t0 : Int) == (v0 : Int)) = true := by rw [heq]; simp
                have d3 : decide (t1 < v1) = false := decide_eq_false (by omega)
                clear hpr heq
                go_upto_region 21 with (fail)
                go_quiet (fail)
                go_wp2
                exact ⟨⟨k + 1 + 1, by go_num, by omega, by rw [HWS.out]; congr 1, Lib.hid (below_drewN HQ.out _)⟩, by simp [intOf]; omega⟩
              · have d2 : ((t0 : Int) == (v0 : Int)) = false := by rw [beq_eq_false_iff_ne]; omega
                clear hpr heq
                go_upto_region 21 with (fail)
                go_quiet (fail)
                go_wp2
                exact ⟨⟨k + 1 + 1, by go_num, by omega, by rw [HWS.out]; congr 1, Lib.hid (below_drewN HQ.out _)⟩, by simp [intOf]; omega⟩
          · have e : i = NL := by omega
            subst e
            have hta : Bu.wsum (L.take i) = sm := by rw [List.take_of_length_le (by rw [HNL.out]; exact Nat.le_refl _), HSM.out]
            rw [hta]
            go_wp2
            go_ret
            exact ⟨rfl, thn HB6.out HQ.out⟩
  · go_enter Try.func5, Try.ntmps5
    go_wp2_with (go_at_call 9; (with_reducible refine (bawake_any _).mono ?_); rintro e w1 ⟨rfl, hb⟩; replace HB := Lib.hid (thn HB.out hb); clear hb)
    go_ret
    exact ⟨rfl, HB.out⟩

set_option maxRecDepth 100000 in
theorem lifted (os : Os) (started : os.Started) (H : Type) (enc : TypeId × Value → H) :
    ReturnsInHanded {} Try.checked os 5 .any (Rows.bufferTurnSpec.pre6 enc Try.prog Try.f5 Rows.bufferTurnRow.domain false) (Rows.bufferTurnSpec.post enc Try.prog Try.f5 false true false false) := by
  refine returnsInHanded_of_change (C := Try.checked) own started (by kernel_rfl) Try.func5
    (ChangeSpec.witness6 (enc := enc) (C := Try.checked) false ⟨#[], #[.int .u64 0, .int .i64 0, .slice none 0 0], []⟩ 8 (by kernel_rfl) (by kernel_rfl) (by kernel_rfl) (by kernel_rfl)) ?_
  intro W base args ds gs before hval0 hW hcnd _
  have hval : ∀ (j : Nat) t v, Try.f5.params[j]? = some t → args[j]? = some v → Value.okWide Try.prog W .any base t v := hval0
  have hW' := hW
  obtain ⟨p, q, hA0, hV, rfl, hfz, hnd⟩ := hW
  have hA : DataW.TrodAll enc Try.prog W 0 (fun _ => true) true Try.f5.params.toList args.toList ds p := hA0
  rw [Try.params5] at hA hval
  obtain ⟨v0, vs0, d0, ds0, p0, q0, hargs, rfl, rfl, h0, r0⟩ := trodAll_cons hA
  obtain ⟨v1, vs1, d1, ds1, p1, q1, rfl, rfl, rfl, h1, r1⟩ := trodAll_cons r0
  obtain ⟨v2, vs2, d2, ds2, p2, q2, rfl, rfl, rfl, h2, r2⟩ := trodAll_cons r1
  obtain ⟨rfl, rfl, rfl⟩ := trodAll_nil r2
  obtain rfl : args = #[v0, v1, v2] := by cases args; simp_all
  obtain ⟨rfl, rfl⟩ := trodVars_none hV
  obtain ⟨a0, rfl, rfl, rfl, w0⟩ := open_int Try.underlying22 (hval 0 22 v0 rfl rfl) h0
  obtain ⟨a1, rfl, rfl, rfl, w1⟩ := open_int Try.underlying3 (hval 1 3 v1 rfl rfl) h1
  obtain ⟨a2, len2, cap2, rfl⟩ := okWide_slice Try.underlying53 (hval 2 53 v2 rfl rfl)
  have k2 := h2
  have lt2 : ∀ x ∈ p2, x.block < W.heap.size := by obtain ⟨m, hm⟩ := k2; exact DataW.trod_lt m _ _ _ hm
  obtain ⟨z2, w2⟩ : ∃ zs, IsRow .u16 W a2 len2 cap2 zs := by
    obtain ⟨fuel, hf⟩ := h2
    rcases open_ints Try.underlying53 Try.underlying54 (by kernel_rfl) hf with ⟨hcs, _⟩ | ⟨x, l, c, zs, hcs, _, hl, hm, hz, _, hcell, hwz⟩
    · simp [Value.cells] at hcs
      obtain ⟨rfl, rfl, rfl⟩ := hcs
      exact ⟨[], .inl ⟨rfl, rfl, rfl, rfl⟩⟩
    · simp [Value.cells] at hcs
      obtain ⟨rfl, rfl, rfl⟩ := hcs
      exact ⟨zs, .inr ⟨_, rfl, hl, hm, by simpa using hz, hcell, hwz⟩⟩
  clear hA0 hval0
  refine (walk a0 a1 a2 len2 cap2 z2 W w0 w1 w2).mono fun e W' ⟨he, bel⟩ => ?_
  subst he
  exact ⟨_, rfl, _, _, _, [], _, [], hW', trodAll_mk1 (shut_bool Try.underlying4 _), (trodAll_cons_mk (shut_int Try.underlying22 w0) (trodAll_cons_mk (shut_int Try.underlying3 w1) (trodAll_cons_mk (Below.trod laidOut (by kernel_rfl) (of_decide_eq_true (by kernel_rfl)) k2 bel lt2) trodAll_mk0))), rfl, bel.frame _, fun h => by cases h⟩

theorem over : Rows.bufferTurnRow.holds Try.pinned (OpenSpec.ofChange Rows.bufferTurnSpec) :=
  OpenClaim.holds_of_wide 5 Try.f5 rfl rfl rfl rfl rfl rfl rfl ⟨rfl, rfl, rfl, rfl, rfl⟩ rfl rfl rfl rfl rfl (by kernel_rfl) Try.func5 (by kernel_rfl)
    (of_decide_eq_true (by kernel_rfl)) (by unfold Func.isWrapper; first | (rw [if_pos (by decide +kernel)]; kernel_rfl) | (rw [if_neg (by decide +kernel)]; exact ⟨rfl, rfl⟩))
    (fun os started H enc _ => lifted os started H enc)

/-- The statement. -/
theorem proved : Rows.BufferTurnSaid := over
#print axioms proved
end Go.Proofs.Ytienfdnlekfmmaa.bufferTurn
