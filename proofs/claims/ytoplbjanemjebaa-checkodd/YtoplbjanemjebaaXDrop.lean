/- The contract of expiry.Drop. -/
import Derived.WalkMore
import Derived.Test.YtoplbjanemjebaaXCut
namespace Go.Proofs.Ytoplbjanemjebaa
open Go.RowKit Go.Shelf Go.Proofs.Rw Go.Proofs.Lh

/-- What is left is laid into h, and h into the result. -/
theorem drop_fin {w W : World} (k g : Int) {n c' : Nat} {A' : Option Addr} {R : Lv} (hr : W.heap[w.heap.size + 1]? = some (.cells #[.int .i64 0, .int .i64 0, .slice none 0 0] 32))
    (hbel : Below w.heap.size w W) (ho : OwnL (fun b => b < w.heap.size) W (w.heap.size + 2) (.slice A' n c') R) :
    ∃ W5, (((W.setCell ⟨w.heap.size, 2, none⟩ (.slice A' n c')).setCell ⟨w.heap.size + 1, 0, none⟩ (.int .i64 k)).setCell ⟨w.heap.size + 1, 1, none⟩ (.int .i64 g)).setCell ⟨w.heap.size + 1, 2, none⟩ (.slice A' n c') = W5 ∧
      Levs W5 W5.heap.size (.slice A' n c') R ∧ Below w.heap.size w W5 ∧ W5.heap[w.heap.size + 1]? = some (.cells #[.int .i64 k, .int .i64 g, .slice A' n c'] 32) := by
  refine ⟨_, rfl, ?_, ?_, ?_⟩
  · have on : ∀ x, x < w.heap.size + 2 → (Value.slice A' n c').ownBlock ≠ some x := fun x hx e => by have := (ho.lt x e).1; omega
    have zo : ∀ x, w.heap.size ≤ x → ∀ b, b < w.heap.size → b ≠ x := fun x h1 b hb => by omega
    have o2 := ho.off (grown_set W w.heap.size 2 (.slice A' n c')) (on _ (by omega)) (zo _ (by omega))
    exact (o2.off (grown3 (b := w.heap.size + 1) (.int .i64 k) (.int .i64 g) (.slice A' n c')) (on _ (by omega)) (zo _ (by omega))).levs
  · exact below3 (hbel.setCell (p := ⟨w.heap.size, 2, none⟩) (Nat.le_refl _) (.slice A' n c')) (b := w.heap.size + 1) (by omega) (.int .i64 k) (.int .i64 g) (.slice A' n c')
  · exact set3 ((Below.heap_setCell _ _ _ _ (by simp)).trans hr) (.int .i64 k) (.int .i64 g) (.slice A' n c')

theorem set_take {ls : Lv} {i : Nat} (hi : i < ls.length) (l : List Sp) : (ls.take (i + 1)).set i l = ls.take i ++ [l] := by
  rw [List.take_succ_eq_append_getElem hi, List.set_append_right _ _ (by simp; omega)]
  simp [show i - min i ls.length = 0 by omega]

set_option maxRecDepth 100000 in
set_option maxHeartbeats 4000000 in
theorem drop_any (k : Nat) (g : Int) (ls : Lv) (hmd : Made k ls) (f v : Nat) (hf : f < 18446744073709551616) (w : World) (A : Option Addr) (c : Nat) (h : Levs w w.heap.size (.slice A ls.length c) ls) :
    Calls Try.prog 18 #[hv k g (.slice A ls.length c), .int .u64 (f : Int), .int .u64 (v : Int)] w fun e w' => ∃ A' c', e = .returned (hv k g (.slice A' (dropL f v ls).length c')) ∧ Levs w' w'.heap.size (.slice A' (dropL f v ls).length c') (dropL f v ls) ∧ Below w.heap.size w w' := by
  have hll : ls.length ≤ 1000 := by have := hmd.len; omega
  obtain ⟨N, hN⟩ : ∃ N, ls.length = N := ⟨_, rfl⟩
  obtain ⟨W0, hW0, hsz, p0, p1, hB0⟩ := heap_two w (.cells #[.int .i64 k, .int .i64 g, .slice A N c] 32) (.cells #[.int .i64 0, .int .i64 0, .slice none 0 0] 32)
  have hcl := clone_any ls W0 w.heap.size hB0.size A c (h.below hB0) (by omega)
  obtain ⟨R, hR⟩ : ∃ R, dropL f v ls = R := ⟨_, rfl⟩
  have hstop := fun i j => drop_stop (f := f) (w := v) (i := i) (j := j) hmd.ok.turn
  have hgone := drop_gone (f := f) (w := v) (ls := ls)
  have hlev := fun i => hmd.lev i
  rw [hR] at hgone ⊢
  simp only [hR] at hstop
  rw [hN] at hcl hll ⊢
  have HN := Lib.hid hN
  have HW0 := Lib.hid hW0
  have HSZ := Lib.hid hsz
  have P0 := Lib.hid p0
  have P1 := Lib.hid p1
  have HB0 := Lib.hid hB0
  have HCL := Lib.hid hcl
  have HST := Lib.hid hstop
  have HGO := Lib.hid hgone
  have HLV := Lib.hid hlev
  clear h hmd hN hW0 hsz p0 p1 hB0 hcl hR hstop hgone hlev
  go_enter Try.func18, Try.ntmps18
  go_upto_region 1 with (fail)
  rw [← HW0.out]
  clear HW0
  obtain ⟨q0, q1, q2⟩ := box3 P0.out
  have l0 : w.heap.size < W0.heap.size := by have := HSZ.out; omega
  go_step3
  go_upto_region 2 with (go_at_call 30; refine HCL.out.mono ?_; rintro e w1 ⟨vc, rfl, ho, hb1⟩; obtain ⟨Ac, cc, rfl, -, -⟩ := ho.form; rw [HN.out] at ho ⊢; have HO := Lib.hid ho; have HB1 := Lib.hid hb1; clear ho hb1)
  obtain ⟨bp, hbp⟩ : ∃ b, w1.heap.size = b := ⟨_, rfl⟩
  obtain ⟨wL, hwL⟩ : ∃ W, w1.alloc (.cells #[.slice Ac N cc] 22) = W := ⟨_, rfl⟩
  have y0 : wL.heap[bp]? = some (.cells #[.slice Ac N cc] 22) := by rw [← hwL, ← hbp]; exact heap_alloc_new w1 _
  have y1 : Below w1.heap.size w1 wL := by rw [← hwL]; exact (Below.refl _ w1).alloc (Nat.le_refl _) _
  have m1 : W0.heap.size ≤ w1.heap.size := HB1.out.size
  have hbp2 : w.heap.size + 2 ≤ bp := by have := HSZ.out; omega
  have y2 : OwnL (fun b => b < w.heap.size) wL (w.heap.size + 2) (.slice Ac N cc) ls := by
    have := HO.out.grow y1
    rw [HSZ.out] at this
    exact this
  have r0 : wL.heap[w.heap.size]? = some (.cells #[.int .i64 k, .int .i64 g, .slice A N c] 32) := (y1.block _ (by omega)).trans ((HB1.out.block _ (by omega)).trans P0.out)
  have r1 : wL.heap[w.heap.size + 1]? = some (.cells #[.int .i64 0, .int .i64 0, .slice none 0 0] 32) := (y1.block _ (by omega)).trans ((HB1.out.block _ (by have := HSZ.out; omega)).trans P1.out)
  have y3 : Below w.heap.size w wL := thn (thn HB0.out HB1.out) y1
  rw [hwL, hbp]
  have y4 : bp < wL.heap.size := lt_of y0
  have Y0 := Lib.hid y0
  have Y2 := Lib.hid y2
  have Y3 := Lib.hid y3
  have R0 := Lib.hid r0
  have R1 := Lib.hid r1
  have hpc := (box1 y0).1
  clear y0 y1 y2 y3 r0 r1 hwL hbp HO HB1 P0 P1 HB0 HCL HSZ m1 l0 q0 q1 q2
  go_wp2
  go_step3
  go_wp2
  go_loopw [9] (fun s9 wr => ∃ (m : Nat) (A' : Option Addr) (c' : Nat), s9 = .int .i64 ((m : Int) - 1) ∧ m ≤ N ∧ (∀ x, m ≤ x → Gone f v (lev ls x)) ∧ wr.heap[bp]? = some (.cells #[.slice A' m c'] 22) ∧ OwnL (fun b => b < w.heap.size) wr (w.heap.size + 2) (.slice A' m c') (ls.take m) ∧ Below (w.heap.size + 2) wL wr) (fun s9 _ => (intOf s9 + 1).toNat)
  case atStart =>
    refine ⟨N, Ac, cc, rfl, Nat.le_refl _, fun x hx => ?_, Y0.out, ?_, Below.refl _ _⟩
    · rw [lev_ge (by rw [HN.out]; exact hx)]
      intro y hy
      cases hy
    · rw [List.take_of_length_le (by rw [HN.out]; exact Nat.le_refl _)]
      exact Y2.out
  case round =>
    obtain ⟨m, A', c', rfl, hmN, hgo, hpx, how, hbel⟩ := hrel
    obtain ⟨qp, fp⟩ := box1 hpx
    have lp := lt_of hpx
    cases m with
    | zero =>
      have hR := HGO.out fun x => hgo x (Nat.zero_le _)
      have hh := (hbel.block w.heap.size (by omega)).trans R0.out
      have hr := (hbel.block (w.heap.size + 1) (by omega)).trans R1.out
      obtain ⟨W5, hW5, hL5, hb5, hr5⟩ := drop_fin k g hr (Y3.out.trans (hbel.mono (by omega))) how
      obtain ⟨x0, x1, x2⟩ := box3 hh
      obtain ⟨z0, z1, z2⟩ := box3 hr
      obtain ⟨t0, t1, t2⟩ := box3 hr5
      have f0 : ∀ i, wr.frozen? ⟨w.heap.size, i, none⟩ = false := fun i => by simp [World.frozen?, hh]
      have f1 : ∀ i, wr.frozen? ⟨w.heap.size + 1, i, none⟩ = false := fun i => by simp [World.frozen?, hr]
      have l0 := lt_of hh
      have l1 := lt_of hr
      have n1 : bp ≠ w.heap.size := by omega
      have n2 : bp ≠ w.heap.size + 1 := by omega
      have HW5 := Lib.hid hW5
      have HL5 := Lib.hid hL5
      have HB5 := Lib.hid hb5
      have T0 := Lib.hid t0
      have T1 := Lib.hid t1
      have T2 := Lib.hid t2
      have HRR := Lib.hid hR
      clear hW5 hL5 hb5 hr5 t0 t1 t2 hh hr hR hgo how hbel hpx
      go_wp2
      rw [HW5.out]
      try rw [Exit.noGoto_ret]
      refine bodyPost_ret (v := hv k g (.slice A' 0 c')) (by simp [results, Try.results18, go_sem, T0.out, T1.out, T2.out]) rfl ⟨A', c', ?_, ?_, HB5.out⟩
      · rw [HRR.out]
        rfl
      · rw [HRR.out]
        exact HL5.out
    | succ i =>
      have hiL : i < ls.length := by rw [HN.out]; omega
      have i1000 : i < 1000 := by omega
      have hiN : i ≤ N := by omega
      obtain ⟨gg, cap, e, hg1, hg2, hcap⟩ := how.addr (by rw [List.length_take]; omega)
      injection e with e1 e2 e3
      subst e1 e3
      obtain ⟨Ai, ci, u0, u1, u2, hLi, hz⟩ := own_at how i (by rw [List.length_take]; omega)
      have hle : (ls.take (i + 1))[i]'(by rw [List.length_take]; omega) = lev ls i := by rw [List.getElem_take, lev_lt hiL]
      rw [hle] at u0 u1 hLi hz
      have hl3 := HLV.out i
      have hset := fun x => set_take hiL x
      obtain ⟨l, hl⟩ : ∃ l, lev ls i = l := ⟨_, rfl⟩
      have hgn : Gone f v l → ∀ x, i ≤ x → Gone f v (lev ls x) := by
        intro hg x hx
        rcases Nat.eq_or_lt_of_le hx with e | hx
        · rw [← e, hl]; exact hg
        · exact hgo x hx
      rw [hl] at u0 u1 hLi hl3 hz
      have hst : ∀ j (hj : j < l.length), Gone f v (l.take j) → oldB (l[j]).2 f v = false → R = ls.take i ++ [l.drop j] := by
        subst hl
        exact fun j hj h1 h2 => HST.out i j hiL (fun x hx => hgo x hx) hj h1 h2
      have hlz : Lies spL wr w.heap.size (.slice Ai l.length ci) l := lies_zone hLi fun hn b hb => (hz hn b hb).1
      obtain ⟨n, hn⟩ : ∃ n, l.length = n := ⟨_, rfl⟩
      have how2 : OwnL (fun b => b < w.heap.size) wr (w.heap.size + 2) (.slice (some ⟨gg, 0, none⟩) (i + 1) c') (ls.take i ++ [l.drop 0]) := by
        rw [List.drop_zero, ← hl, lev_lt hiL, ← List.take_succ_eq_append_getElem hiL]
        exact how
      rw [hn] at u0 u1 hl3 hlz
      have hlen : (ls.take i).length = i := by rw [List.length_take]; omega
      obtain ⟨low, hlow⟩ : ∃ low, ls.take i = low := ⟨_, rfl⟩
      rw [hlow] at how2 hlen
      simp only [hlow] at hst
      have lgg := hg2
      have HLZ := Lib.hid hlz
      have HNL := Lib.hid hn
      have HSTT := Lib.hid hst
      have HGN := Lib.hid hgn
      have HLOW := Lib.hid hlow
      have HLL := Lib.hid hlen
      have HOW2 := Lib.hid how2
      have HBEL := Lib.hid hbel
      have HPX := Lib.hid hpx
      have hii : ((i + 1 : Nat) : Int) - 1 = (i : Int) := by omega
      rw [hii]
      clear hgo how hle hst hset hgn hl hLi hz hlz hn how2 hlen hlow hpx hbel hii hcap hg1 hg2 HST HGO HLV hmN
      obtain ⟨mm, hmm⟩ : ∃ mm, i + 1 = mm := ⟨_, rfl⟩
      have hIM : i < mm := by omega
      have hM1 : mm ≤ 1000 := by omega
      rw [hmm] at qp HPX HOW2
      have HMM := Lib.hid hmm
      clear hmm
      rename World => wo
      go_wp2
      go_loopw [28] (fun s28 wr => ∃ j : Nat, s28 = .int .i64 (j : Int) ∧ j ≤ n ∧ Gone f v (l.take j) ∧ wr.heap[bp]? = some (.cells #[.slice (some ⟨gg, 0, none⟩) mm c'] 22) ∧ OwnL (fun b => b < w.heap.size) wr (w.heap.size + 2) (.slice (some ⟨gg, 0, none⟩) mm c') (low ++ [l.drop j]) ∧ Below (w.heap.size + 2) wL wr ∧ wo.heap.size ≤ wr.heap.size ∧ Lies spL wr w.heap.size (.slice Ai n ci) l) (fun s28 _ => n - (intOf s28).toNat)
      case atStart => exact ⟨0, rfl, Nat.zero_le _, fun x hx => (by simp at hx), HPX.out, HOW2.out, HBEL.out, Nat.le_refl _, HLZ.out⟩
      case round =>
        obtain ⟨j, rfl, hj, hgo, hpx, how, hbel, hwo, hlz⟩ := hrel
        clear qp fp lp u0 lgg
        obtain ⟨qp, fp⟩ := box1 hpx
        have lp := lt_of hpx
        by_cases hlt : j < n
        · have hjl : j < l.length := by rw [HNL.out]; exact hlt
          obtain ⟨b3, o3, rfl, hb3, -, hc3⟩ := sp_at hlz (by omega)
          obtain ⟨v0, v1⟩ := hc3 j hjl
          have hbs : b3 < wr.heap.size := by have := hbel.size; omega
          have hnext := gone_take hgo hjl
          have hstop := HSTT.out j
          have hdd : (l.drop j).drop 1 = l.drop (j + 1) := by rw [List.drop_drop]
          have hdl : 0 < (l.drop j).length := by rw [List.length_drop]; omega
          have hdl2 : (l.drop j).length ≤ 1000000 := by rw [List.length_drop]; have := HNL.out; omega
          obtain ⟨x, hx⟩ : ∃ x, l[j] = x := ⟨_, rfl⟩
          rw [hx] at v0 v1 hnext
          obtain ⟨W8, hW8⟩ : ∃ W8, wr.alloc (.cells #[.int .u64 (x.1 : Int), .int .u64 (x.2 : Int)] 44) = W8 := ⟨_, rfl⟩
          have hA8 : Below wr.heap.size wr W8 := by rw [← hW8]; exact (Below.refl _ wr).alloc (Nat.le_refl _) _
          have p8 := (hA8.block bp lp).trans hpx
          have o8 := how.grow hA8
          have b8 := hbel.trans (hA8.mono (by omega))
          cases ho : oldB x.2 f v with
          | true =>
            have hcut := cut_any bp gg mm c' i W8 (w.heap.size + 2) (fun b => b < w.heap.size) (low ++ [l.drop j]) (l.drop j) p8 o8 (by rw [List.length_append, HLL.out]; simp) (by rw [List.getElem_append_right (by rw [HLL.out]; exact Nat.le_refl _)]; simp [HLL.out]) hdl hdl2
            rw [show (low ++ [l.drop j]).set i ((l.drop j).drop 1) = low ++ [l.drop (j + 1)] by rw [hdd, List.set_append_right _ _ (by rw [HLL.out]; exact Nat.le_refl _), HLL.out, Nat.sub_self]; rfl] at hcut
            have hold := fun W => old_any x.2 f v W hf
            simp only [ho] at hold
            have HCUT := Lib.hid hcut
            have HOLD := Lib.hid hold
            have HNX := Lib.hid (hnext ho)
            have HW8 := Lib.hid hW8
            have P8 := Lib.hid p8
            have B8 := Lib.hid b8
            have HA8 := Lib.hid hA8
            have O8 := Lib.hid o8
            have HZ8 := Lib.hid (hlz.below (hA8.mono (by have := hbel.size; omega)))
            clear hcut hold hnext hstop ho hW8 p8 b8 hA8 o8 hlz hc3 hbel hpx how hgo hdd hdl hdl2 hx hjl
            go_wp2_with (first
              | (go_at_call 32; refine (HOLD.out _).mono ?_; rintro e w9 ⟨rfl, rfl⟩)
              | (rw [HW8.out]; go_at_call 31; refine HCUT.out.mono ?_; rintro e w9 ⟨rfl, ho9, hg9⟩; have HO9 := Lib.hid ho9; have HG9 := Lib.hid hg9; clear ho9 hg9))
            have hbg : bp ≠ gg := by
              intro e
              obtain ⟨vs, h1, -, -⟩ := O8.out
              rcases h1.2 with ⟨e2, -⟩ | ⟨g', cap, cur, e2, -, hg', -⟩
              · cases e2
              · injection e2 with e2
                injection e2 with e2
                injection e2 with e2
                subst e2
                rw [← e, P8.out] at hg'
                injection hg' with hg'
                injection hg' with _ hg' _
                exact absurd hg' (by decide)
            have l9 := HG9.out.size
            have l8 := HA8.out.size
            have gg2 : w.heap.size + 2 ≤ gg := (O8.out.lt gg rfl).1
            refine ⟨⟨j + 1, by go_num, hlt, HNX.out, ?_, HO9.out, ?_, by omega, ?_⟩, by simp [intOf]; omega⟩
            · exact (HG9.out.block bp (lt_of P8.out) (by simpa using hbg)).trans P8.out
            · exact B8.out.grown HG9.out (by omega) fun q e => by cases e; exact gg2
            · exact HZ8.out.keep fun b hb => HG9.out.block b (by omega) (by simp; omega)
          | false =>
            have hR := hstop (by omega) hgo (by rw [hx]; exact ho)
            have hh := (b8.block w.heap.size (by omega)).trans R0.out
            have hr := (b8.block (w.heap.size + 1) (by omega)).trans R1.out
            obtain ⟨W5, hW5, hL5, hb5, hr5⟩ := drop_fin k g hr (Y3.out.trans (b8.mono (by omega))) o8
            obtain ⟨x0, x1, x2⟩ := box3 hh
            obtain ⟨z0, z1, z2⟩ := box3 hr
            obtain ⟨t0, t1, t2⟩ := box3 hr5
            obtain ⟨q8, -⟩ := box1 p8
            have f0 : ∀ i, W8.frozen? ⟨w.heap.size, i, none⟩ = false := fun i => by simp [World.frozen?, hh]
            have f1 : ∀ i, W8.frozen? ⟨w.heap.size + 1, i, none⟩ = false := fun i => by simp [World.frozen?, hr]
            have l0 := lt_of hh
            have l1 := lt_of hr
            have l8 := lt_of p8
            have n1 : bp ≠ w.heap.size := by omega
            have n2 : bp ≠ w.heap.size + 1 := by omega
            have hold := fun W => old_any x.2 f v W hf
            simp only [ho] at hold
            have HOLD := Lib.hid hold
            have HW8 := Lib.hid hW8
            have HW5 := Lib.hid hW5
            have HL5 := Lib.hid hL5
            have HB5 := Lib.hid hb5
            have T0 := Lib.hid t0
            have T1 := Lib.hid t1
            have T2 := Lib.hid t2
            have HRR := Lib.hid hR
            have X0 := Lib.hid x0
            clear hold hnext hstop ho hW8 hA8 b8 p8 o8 hlz hc3 hbel hpx how hgo hdd hdl hdl2 hx hjl hW5 hL5 hb5 hr5 t0 t1 t2 hh hr hR
            go_upto_region 13 with (go_at_call 32; refine (HOLD.out _).mono ?_; rintro e w9 ⟨rfl, rfl⟩)
            rw [HW8.out]
            go_wp2
            rw [HW5.out]
            try rw [Exit.noGoto_ret]
            refine bodyPost_ret (v := hv k g (.slice (some ⟨gg, 0, none⟩) mm c')) (by simp [results, Try.results18, go_sem, T0.out, T1.out, T2.out]) rfl ⟨some ⟨gg, 0, none⟩, c', ?_, ?_, HB5.out⟩
            · rw [HRR.out, List.length_append, HLL.out, ← HMM.out]
              rfl
            · rw [HRR.out, List.length_append, HLL.out, ← HRR.out]
              have := HL5.out
              rw [← HMM.out, ← HRR.out] at this
              exact this
        · have hjn : j = n := by omega
          have hg := hgo
          rw [List.take_of_length_le (by rw [HNL.out]; omega)] at hg
          have hot := own_take how i (by rw [List.length_append, HLL.out]; simp)
          rw [show (low ++ [l.drop j]).take i = low by rw [List.take_append_of_le_length (by rw [HLL.out]; exact Nat.le_refl _), List.take_of_length_le (by rw [HLL.out]; exact Nat.le_refl _)]] at hot
          have hvb : (Value.slice (some ⟨gg, 0, none⟩) i c').ownBlock ≠ some bp := by
            intro e
            injection e with e
            have e : gg = bp := e
            obtain ⟨vs, h1, -, -⟩ := how
            rcases h1.2 with ⟨e2, -⟩ | ⟨g', cap, cur, e2, -, hg', -⟩
            · cases e2
            · injection e2 with e2
              injection e2 with e2
              injection e2 with e2
              subst e2
              rw [e, hpx] at hg'
              injection hg' with hg'
              injection hg' with _ hg' _
              exact absurd hg' (by decide)
          have hot2 := hot.off (grown_set wr bp 0 (.slice (some ⟨gg, 0, none⟩) i c')) hvb (fun b hb => by have hb : b < w.heap.size := hb; omega)
          have hpx2 := set1 (o := 0) (.slice (some ⟨gg, 0, none⟩) i c') hpx
          have hb2 := hbel.setCell (p := ⟨bp, 0, none⟩) hbp2 (.slice (some ⟨gg, 0, none⟩) i c')
          have hcap : mm ≤ c' := by
            obtain ⟨A9, c9, e9, h9, -⟩ := how.form
            injection e9 with _ e9 e10
            omega
          have HG := Lib.hid (HGN.out hg)
          have HOT := Lib.hid hot2
          have HPX2 := Lib.hid hpx2
          have HB2 := Lib.hid hb2
          clear hg hgo hot hot2 hpx2 hb2 hvb how hlz hbel hpx hlt
          go_wp2
          refine ⟨⟨i, _, c', by go_num, hiN, HG.out, HPX2.out, ?_, HB2.out⟩, by simp [intOf]⟩
          rw [HLOW.out]
          exact HOT.out

end Go.Proofs.Ytoplbjanemjebaa
