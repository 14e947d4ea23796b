/- The contracts of skylightref09.turned and Hist. -/
import Derived.Test.YtoplbjanemjebaaCkRef
namespace Go.Proofs.Ytoplbjanemjebaa
open Go.RowKit Go.Shelf Go.Proofs.Rw Go.Proofs.Lh

set_option maxRecDepth 100000 in
set_option maxHeartbeats 8000000 in
theorem turned_any (k g : Int) (ls : Lv) (hl : ls.length ≤ 1000000) (hlv : ∀ i, (lev ls i).length ≤ 1000000) (w : World) (A : Option Addr) (c : Nat) (h : Reads w w.heap.size (.slice A ls.length c) ls) :
    Calls Try.prog 26 #[hv k g (.slice A ls.length c)] w fun e w' => e = .returned (.bool (turnedB ls)) ∧ Below w.heap.size w w' := by
  obtain ⟨N, hN⟩ : ∃ N, ls.length = N := ⟨_, rfl⟩
  obtain ⟨W0, hW0⟩ : ∃ W, w.alloc (.cells #[.int .i64 k, .int .i64 g, .slice A N c] 29) = W := ⟨_, rfl⟩
  have hB0 : Below w.heap.size w W0 := by rw [← hW0]; exact (Below.refl _ w).alloc (Nat.le_refl _) _
  have hp0 : W0.heap[w.heap.size]? = some (.cells #[.int .i64 k, .int .i64 g, .slice A N c] 29) := by rw [← hW0]; exact heap_alloc_new w _
  have hL0 := h.grow hB0
  rw [hN] at hl hL0 ⊢
  have HN := Lib.hid hN
  have HW0 := Lib.hid hW0
  have HB0 := Lib.hid hB0
  have HP0 := Lib.hid hp0
  have HL0 := Lib.hid hL0
  have HLV := Lib.hid hlv
  clear h hN hW0 hB0 hp0 hL0 hlv
  go_enter Try.func26, Try.ntmps26
  go_upto_region 1 with (fail)
  rw [HW0.out]
  clear HW0
  obtain ⟨x0, x1, x2⟩ := box3 HP0.out
  have lh := lt_of HP0.out
  have hNi : (N : Int) ≤ 1000000 := by omega
  go_wp2
  clear x0 x1 x2 lh
  go_loopw [3, 4] (fun s3 s4 wr => ∃ m : Nat, s4 = .int .i64 ((m : Int) - 1) ∧ m ≤ N ∧ s3 = .int .u64 (behind (allOf (ls.drop m)) : Nat) ∧ Hid (inTurn 0 (allOf (ls.drop m)) = true ∧ (m = 0 → flatB ls = true ∨ N = 0)) ∧ Hid (Below W0.heap.size W0 wr)) (fun _ s4 _ => (intOf s4 + 1).toNat)
  case atStart =>
    have e : allOf (ls.drop N) = [] := by rw [← HN.out, List.drop_length]; rfl
    exact ⟨N, by go_num, Nat.le_refl _, by rw [e]; rfl, Lib.hid ⟨by rw [e]; rfl, fun h => .inr h⟩, Lib.hid (Below.refl _ _)⟩
  case round =>
    obtain ⟨m, rfl, hmN, rfl, HT, HB⟩ := hrel
    have hh := (HB.out.block w.heap.size (lt_of HP0.out)).trans HP0.out
    obtain ⟨x0, x1, x2⟩ := box3 hh
    have lh := lt_of hh
    by_cases hm0 : 0 < m
    · obtain ⟨i, rfl⟩ : ∃ i, m = i + 1 := ⟨m - 1, by omega⟩
      have hil : i < ls.length := by rw [HN.out]; omega
      have hiN : i < N := by omega
      have hLr := HL0.out.grow HB.out
      obtain ⟨b, off, rfl, hb, -, hc⟩ := hLr.at (by omega)
      obtain ⟨Ai, ci, q0, -, -, hLi⟩ := hc i hil
      have hdr := allOf_drop hil
      have hm6 := HLV.out i
      have hlev := lev_lt hil
      rw [← hlev] at q0 hLi
      have hiI : ((i + 1 : Nat) : Int) - 1 = (i : Int) := by omega
      rw [hiI]
      obtain ⟨P, hP⟩ : ∃ P, allOf (ls.drop (i + 1)) = P := ⟨_, rfl⟩
      obtain ⟨L, hLL⟩ : ∃ L, lev ls i = L := ⟨_, rfl⟩
      rw [hP] at HT ⊢
      rw [hP, hLL] at hdr
      rw [hLL] at q0 hLi hm6
      obtain ⟨mm, hmm⟩ : ∃ m, L.length = m := ⟨_, rfl⟩
      rw [hmm] at q0 hLi hm6
      have HDR := Lib.hid hdr
      have HPP := Lib.hid hP
      have HLE := Lib.hid hLL
      have HMM := Lib.hid hmm
      have HLI := Lib.hid hLi
      have Q0 := Lib.hid q0
      have HH := Lib.hid hh
      have HIL := Lib.hid hil
      clear hc hLi hLr hdr hP hLL hmm hil q0 hh hlev hiI x0 x1 hm0
      rename World => wo
      go_wp2
      go_loopw [3, 5] (fun s3 s5 wr => ∃ j : Nat, s5 = .int .i64 (j : Int) ∧ j ≤ mm ∧ s3 = .int .u64 (behind (P ++ L.take j) : Nat) ∧ Hid (inTurn 0 (P ++ L.take j) = true ∧ (i = 0 → ∀ x ∈ L.take j, x.1 = x.2)) ∧ Hid (Below wo.heap.size wo wr)) (fun _ s5 _ => mm - (intOf s5).toNat)
      case atStart => exact ⟨0, rfl, Nat.zero_le _, by rw [List.take_zero, List.append_nil], Lib.hid ⟨by rw [List.take_zero, List.append_nil]; exact HT.out.1, fun _ x hx => by simp at hx⟩, Lib.hid (Below.refl _ _)⟩
      case round =>
        obtain ⟨j, rfl, hjm, rfl, HT2, HB2⟩ := hrel
        have hh := (HB2.out.block w.heap.size (lt_of HH.out)).trans HH.out
        clear x2
        obtain ⟨x0, x1, x2⟩ := box3 hh
        have lh2 := lt_of hh
        have q0 := (HB2.out.cell (p := ⟨b, off + i, none⟩) hb).trans Q0.out
        have lb : b < wr.heap.size := Nat.lt_of_lt_of_le hb HB2.out.size
        by_cases hjt : j < mm
        · have hjl : j < L.length := by rw [HMM.out]; exact hjt
          obtain ⟨b2, off2, rfl, hb2, -, hc2⟩ := sp_at (HLI.out.grow HB2.out) (by omega)
          obtain ⟨e0, e1⟩ := hc2 j hjl
          have htk : L.take (j + 1) = L.take j ++ [L[j]] := List.take_succ_eq_append_getElem hjl
          have hsp : L = L.take j ++ L[j] :: L.drop (j + 1) := by
            rw [List.getElem_cons_drop, List.take_append_drop]
          have hmem : L[j] ∈ L := List.getElem_mem hjl
          obtain ⟨y, hy⟩ : ∃ y, L[j] = y := ⟨_, rfl⟩
          rw [hy] at e0 e1 htk hsp hmem
          obtain ⟨t0, t1⟩ := y
          dsimp only at e0 e1
          have hno1 : nextB (behind (P ++ L.take j)) (t0, t1) = false → turnedB ls = false := fun h => turned_no1 HPP.out HLE.out HIL.out hsp HT2.out.1 h
          have hno2 : i = 0 → t0 ≠ t1 → turnedB ls = false := fun h0 hne => turned_no2 (b := (t0, t1)) (by rw [← h0, HLE.out]; exact hmem) hne
          have hgo : nextB (behind (P ++ L.take j)) (t0, t1) = true → (i = 0 → t0 = t1) → behind (P ++ L.take (j + 1)) = t1 ∧ inTurn 0 (P ++ L.take (j + 1)) = true ∧ (i = 0 → ∀ x ∈ L.take (j + 1), x.1 = x.2) := fun h h' => by
            rw [htk, ← List.append_assoc]
            refine ⟨behind_snoc _ _, by rw [turn_snoc HT2.out.1, h], fun h0 x hx => ?_⟩
            rcases List.mem_append.1 hx with hx | hx
            · exact HT2.out.2 h0 x hx
            · rw [List.mem_singleton.1 hx]
              exact h' h0
          obtain ⟨a, ha⟩ : ∃ a, behind (P ++ L.take j) = a := ⟨_, rfl⟩
          rw [ha] at hno1 hgo ⊢
          have NO1 := Lib.hid hno1
          have NO2 := Lib.hid hno2
          have GO := Lib.hid hgo
          have hbn : Below wo.heap.size wo (wr.alloc (.cells #[.int .u64 (t0 : Int), .int .u64 (t1 : Int)] 44)) := HB2.out.alloc HB2.out.size _
          have HBN := Lib.hid hbn
          have HBR := Lib.hid (thn HB0.out (thn HB.out hbn))
          clear hbn hno1 hno2 hgo hh x0 x1 hc2 hy htk hsp hmem hjl ha
          by_cases c1 : t1 < t0
          · have d1 : decide (t1 < t0) = true := by simpa using c1
            go_wp2
            go_ret
            exact ⟨ret_b (NO1.out (by unfold nextB; rw [decide_eq_false_iff_not]; dsimp only; omega)).symm, HBR.out⟩
          · have d1 : decide (t1 < t0) = false := by simpa using c1
            by_cases c2 : t0 < a
            · have d2 : decide (t0 < a) = true := by simpa using c2
              go_wp2
              go_ret
              exact ⟨ret_b (NO1.out (by unfold nextB; rw [decide_eq_false_iff_not]; dsimp only; omega)).symm, HBR.out⟩
            · have d2 : decide (t0 < a) = false := by simpa using c2
              by_cases c3 : 9223372036854775807 < t1
              · have d3 : decide ((9223372036854775807 : Int) < (t1 : Int)) = true := by rw [decide_eq_true_iff]; omega
                go_wp2
                go_ret
                exact ⟨ret_b (NO1.out (by unfold nextB; rw [decide_eq_false_iff_not]; dsimp only; omega)).symm, HBR.out⟩
              · have d3 : decide ((9223372036854775807 : Int) < (t1 : Int)) = false := by rw [decide_eq_false_iff_not]; omega
                have hnx : nextB a (t0, t1) = true := by unfold nextB; rw [decide_eq_true_iff]; dsimp only; omega
                have HNX := Lib.hid hnx
                clear hnx
                by_cases c4 : i = 0
                · have d4 : ((i : Int) == 0) = true := by rw [beq_iff_eq]; omega
                  have C4 := Lib.hid c4
                  clear c4
                  by_cases c5 : t0 = t1
                  · have d5 : ((t0 : Int) != (t1 : Int)) = false := by simp; omega
                    have C5 := Lib.hid c5
                    clear c5
                    go_wp2
                    obtain ⟨g1, g2, g3⟩ := GO.out HNX.out (fun _ => C5.out)
                    refine ⟨⟨j + 1, by go_num, hjt, by rw [g1], Lib.hid ⟨g2, g3⟩, HBN⟩, by simp [intOf]; omega⟩
                  · have d5 : ((t0 : Int) != (t1 : Int)) = true := by simp; omega
                    go_wp2
                    go_ret
                    exact ⟨ret_b (NO2.out C4.out c5).symm, HBR.out⟩
                · have d4 : ((i : Int) == 0) = false := by rw [beq_eq_false_iff_ne]; omega
                  go_wp2
                  obtain ⟨g1, g2, g3⟩ := GO.out HNX.out (fun h => absurd h c4)
                  refine ⟨⟨j + 1, by go_num, hjt, by rw [g1], Lib.hid ⟨g2, g3⟩, HBN⟩, by simp [intOf]; omega⟩
        · have e : j = mm := by omega
          subst e
          have htl : L.take j = L := by rw [← HMM.out, List.take_length]
          rw [htl] at HT2 ⊢
          have hfin : inTurn 0 (allOf (ls.drop i)) = true ∧ (i = 0 → flatB ls = true ∨ N = 0) := by
            rw [HDR.out]
            refine ⟨HT2.out.1, fun h => .inl (flat_yes fun x hx => ?_)⟩
            rw [← h, HLE.out] at hx
            exact HT2.out.2 h x hx
          rw [← HDR.out]
          have HFIN := Lib.hid hfin
          clear hh x0 x1 hfin htl
          go_wp2
          refine ⟨⟨i, by go_num, by omega, rfl, HFIN, Lib.hid (thn HB.out HB2.out)⟩, by simp [intOf] <;> omega⟩
    · have e : m = 0 := by omega
      subst e
      have hfin : turnedB ls = true := by
        have h1 := HT.out.1
        rw [List.drop_zero] at h1
        unfold turnedB
        rw [h1, Bool.true_and]
        rcases HT.out.2 rfl with h | h
        · exact h
        · exact flat_yes fun x hx => by rw [lev_ge (by have := HN.out; omega)] at hx; simp at hx
      have HFIN := Lib.hid hfin
      clear hfin hh x0 x1
      rw [show ((0 : Nat) : Int) - 1 = -1 from rfl]
      go_wp2
      go_ret
      exact ⟨ret_b HFIN.out.symm, thn HB0.out HB.out⟩

set_option maxHeartbeats 2000000 in
theorem rhist_any (k g : Int) (ls : Lv) (hl : ls.length ≤ 1000000) (hlv : ∀ i, (lev ls i).length ≤ 1000000) (w : World) (A : Option Addr) (c : Nat) (h : Reads w w.heap.size (.slice A ls.length c) ls) :
    Calls Try.prog 12 #[hv k g (.slice A ls.length c)] w fun e w' => e = .returned (.int .i64 (chk k g ls : Int)) ∧ Below w.heap.size w w' := by
  have hm := fun W => rmay9_any k W
  have hb0 : Below w.heap.size w (w.alloc (.cells #[.int .i64 k, .int .i64 g, .slice A ls.length c] 29)) := (Below.refl _ w).alloc (Nat.le_refl _) _
  have hp0 : (w.alloc (.cells #[.int .i64 k, .int .i64 g, .slice A ls.length c] 29)).heap[w.heap.size]? = some (.cells #[.int .i64 k, .int .i64 g, .slice A ls.length c] 29) := heap_alloc_new w _
  have hL0 := h.grow hb0
  obtain ⟨W0, hW0⟩ : ∃ W, w.alloc (.cells #[.int .i64 k, .int .i64 g, .slice A ls.length c] 29) = W := ⟨_, rfl⟩
  rw [hW0] at hb0 hp0 hL0
  have HW0 := Lib.hid hW0
  have HB0 := Lib.hid hb0
  have HP0 := Lib.hid hp0
  have HL0 := Lib.hid hL0
  obtain ⟨x0, x1, x2⟩ := box3 hp0
  have lh := lt_of hp0
  clear hW0 hb0 hp0 hL0 h
  by_cases hk : 2 ≤ k ∧ k ≤ 1024
  · rw [decide_eq_true hk] at hm
    have HM := Lib.hid hm
    clear hm
    by_cases g0 : 0 ≤ g
    · by_cases g1 : g ≤ 4
      · obtain ⟨kn, rfl⟩ : ∃ kn : Nat, k = (kn : Int) := ⟨k.toNat, by omega⟩
        have hk2 : 2 ≤ kn := by omega
        have hk3 : kn ≤ 1024 := by omega
        have hch : chk (kn : Int) g ls = if goodB kn ls = true then 0 else 2 := by
          unfold chk
          rw [if_pos ⟨hk, g0, g1⟩, Int.toNat_natCast]
        have hgd : goodB kn ls = (shapedB kn ls && turnedB ls && decide (tot ls ≤ 4503599627370496)) := rfl
        have hs1 := shaped_any kn hk2 hk3 g ls hl W0 A c HL0.out
        have hft : shapedB kn ls = true → ls.length ≤ 52 ∧ tot ls ≤ 4611686018427387904 := fun h => by
          unfold shapedB at h
          rw [Bool.and_eq_true, decide_eq_true_iff] at h
          exact ⟨h.2, filled_tot hk3 h.1 h.2⟩
        rw [hch, hgd]
        obtain ⟨q1, hq1⟩ : ∃ q, shapedB kn ls = q := ⟨_, rfl⟩
        rw [hq1] at hs1 hft ⊢
        have HS1 := Lib.hid hs1
        have d0 : decide (g < 0) = false := by rw [decide_eq_false_iff_not]; omega
        have d1 : decide (4 < g) = false := by rw [decide_eq_false_iff_not]; omega
        clear hs1 hch hgd hq1
        cases q1 with
        | false =>
          clear hft hk
          rw [show (if (false && turnedB ls && decide (tot ls ≤ 4503599627370496)) = true then 0 else 2 : Nat) = 2 by simp]
          go_enter Try.func12, Try.ntmps12
          go_upto_region 1 with (fail)
          rw [HW0.out]
          go_wp2_with (first
            | (go_at_call 24; (with_reducible refine (HM.out _).mono ?_); rintro e wn ⟨rfl, rfl⟩)
            | (go_at_call 25; refine HS1.out.mono ?_; rintro e w1 ⟨rfl, hb1⟩; have HB1 := Lib.hid hb1; clear hb1))
          go_ret
          exact ⟨rfl, thn HB0.out HB1.out⟩
        | true =>
          obtain ⟨hl52, ht62⟩ := hft rfl
          have ht1 := fun (W : World) (hW : Below W0.heap.size W0 W) => turned_any (kn : Int) g ls hl hlv W A c (HL0.out.grow hW)
          have ho1 := fun (W : World) (hW : Below W0.heap.size W0 W) => rtotal_rd (kn : Int) g ls (by omega) ht62 W A c (HL0.out.grow hW)
          obtain ⟨q2, hq2⟩ : ∃ q, turnedB ls = q := ⟨_, rfl⟩
          rw [hq2] at ht1 ⊢
          have HT1 := Lib.hid ht1
          have HO1 := Lib.hid ho1
          clear ht1 ho1 hft hk hq2
          cases q2 with
          | false =>
            rw [show (if (true && false && decide (tot ls ≤ 4503599627370496)) = true then 0 else 2 : Nat) = 2 by simp]
            go_enter Try.func12, Try.ntmps12
            go_upto_region 1 with (fail)
            rw [HW0.out]
            go_wp2_with (first
              | (go_at_call 24; (with_reducible refine (HM.out _).mono ?_); rintro e wn ⟨rfl, rfl⟩)
              | (go_at_call 25; refine HS1.out.mono ?_; rintro e w1 ⟨rfl, hb1⟩; have HB1 := Lib.hid hb1; obtain ⟨y0, y1, y2⟩ := box3 ((hb1.block _ lh).trans HP0.out); have lh1 := Nat.lt_of_lt_of_le lh hb1.size; clear hb1)
              | (go_at_call 26; refine (HT1.out _ HB1.out).mono ?_; rintro e w2 ⟨rfl, hb2⟩; have HB2 := Lib.hid (thn HB1.out hb2); clear hb2))
            go_ret
            exact ⟨rfl, thn HB0.out HB2.out⟩
          | true =>
            generalize tot ls = t at *
            by_cases hd : t ≤ 4503599627370496
            · rw [show (if (true && true && decide (t ≤ 4503599627370496)) = true then 0 else 2 : Nat) = 0 by simp [hd]]
              have d3 : decide ((4503599627370496 : Int) < (t : Int)) = false := by rw [decide_eq_false_iff_not]; omega
              go_enter Try.func12, Try.ntmps12
              go_upto_region 1 with (fail)
              rw [HW0.out]
              go_wp2_with (first
                | (go_at_call 24; (with_reducible refine (HM.out _).mono ?_); rintro e wn ⟨rfl, rfl⟩)
                | (go_at_call 25; refine HS1.out.mono ?_; rintro e w1 ⟨rfl, hb1⟩; have HB1 := Lib.hid hb1; obtain ⟨y0, y1, y2⟩ := box3 ((hb1.block _ lh).trans HP0.out); have lh1 := Nat.lt_of_lt_of_le lh hb1.size; clear hb1)
                | (go_at_call 26; refine (HT1.out _ HB1.out).mono ?_; rintro e w2 ⟨rfl, hb2⟩; have HB2 := Lib.hid (thn HB1.out hb2); obtain ⟨z0, z1, z2⟩ := box3 ((HB2.out.block _ lh).trans HP0.out); have lh2 := Nat.lt_of_lt_of_le lh HB2.out.size; clear hb2)
                | (go_at_call 27; refine (HO1.out _ HB2.out).mono ?_; rintro e w3 ⟨rfl, hb3⟩; have HB3 := Lib.hid (thn HB2.out hb3); clear hb3))
              go_ret
              exact ⟨rfl, thn HB0.out HB3.out⟩
            · rw [show (if (true && true && decide (t ≤ 4503599627370496)) = true then 0 else 2 : Nat) = 2 by simp [hd]]
              have d3 : decide ((4503599627370496 : Int) < (t : Int)) = true := by rw [decide_eq_true_iff]; omega
              go_enter Try.func12, Try.ntmps12
              go_upto_region 1 with (fail)
              rw [HW0.out]
              go_wp2_with (first
                | (go_at_call 24; (with_reducible refine (HM.out _).mono ?_); rintro e wn ⟨rfl, rfl⟩)
                | (go_at_call 25; refine HS1.out.mono ?_; rintro e w1 ⟨rfl, hb1⟩; have HB1 := Lib.hid hb1; obtain ⟨y0, y1, y2⟩ := box3 ((hb1.block _ lh).trans HP0.out); have lh1 := Nat.lt_of_lt_of_le lh hb1.size; clear hb1)
                | (go_at_call 26; refine (HT1.out _ HB1.out).mono ?_; rintro e w2 ⟨rfl, hb2⟩; have HB2 := Lib.hid (thn HB1.out hb2); obtain ⟨z0, z1, z2⟩ := box3 ((HB2.out.block _ lh).trans HP0.out); have lh2 := Nat.lt_of_lt_of_le lh HB2.out.size; clear hb2)
                | (go_at_call 27; refine (HO1.out _ HB2.out).mono ?_; rintro e w3 ⟨rfl, hb3⟩; have HB3 := Lib.hid (thn HB2.out hb3); clear hb3))
              go_ret
              exact ⟨rfl, thn HB0.out HB3.out⟩
      · rw [chk_nine ls (by unfold okKG; rw [decide_eq_false_iff_not]; omega)]
        have d0 : decide (g < 0) = false := by rw [decide_eq_false_iff_not]; omega
        have d1 : decide (4 < g) = true := by rw [decide_eq_true_iff]; omega
        clear hk
        go_enter Try.func12, Try.ntmps12
        go_upto_region 1 with (fail)
        rw [HW0.out]
        go_wp2_with (go_at_call 24; (with_reducible refine (HM.out _).mono ?_); rintro e wn ⟨rfl, rfl⟩)
        go_ret
        exact ⟨rfl, HB0.out⟩
    · rw [chk_nine ls (by unfold okKG; rw [decide_eq_false_iff_not]; omega)]
      have d0 : decide (g < 0) = true := by rw [decide_eq_true_iff]; omega
      clear hk
      go_enter Try.func12, Try.ntmps12
      go_upto_region 1 with (fail)
      rw [HW0.out]
      go_wp2_with (go_at_call 24; (with_reducible refine (HM.out _).mono ?_); rintro e wn ⟨rfl, rfl⟩)
      go_ret
      exact ⟨rfl, HB0.out⟩
  · rw [decide_eq_false hk] at hm
    rw [chk_nine ls (by unfold okKG; rw [decide_eq_false_iff_not]; exact fun h => hk h.1)]
    have HM := Lib.hid hm
    clear hm hk
    go_enter Try.func12, Try.ntmps12
    go_upto_region 1 with (fail)
    rw [HW0.out]
    go_wp2_with (go_at_call 24; (with_reducible refine (HM.out _).mono ?_); rintro e wn ⟨rfl, rfl⟩)
    go_ret
    exact ⟨rfl, HB0.out⟩

end Go.Proofs.Ytoplbjanemjebaa
