/- The contracts of skylightref08.Parts and skylightref08.Of. -/
import Derived.Test.YthmbmiikhghaoaaEsParts
namespace Go.Proofs.Ythmbmiikhghaoaa
open Go.RowKit Go.Shelf Go.Proofs.Rw Go.Proofs.Lh

set_option maxRecDepth 100000 in
set_option maxHeartbeats 4000000 in
theorem rparts_any (k g : Int) (ls : Lv) (hl : ls.length ≤ 60) (hlv : ∀ i, (lev ls i).length ≤ 1000000) (ht : tot ls ≤ 4611686018427387904) (f v : Nat) (hf : f < 18446744073709551616) (w : World) (A : Option Addr) (c : Nat) (h : Levs w w.heap.size (.slice A ls.length c) ls) :
    Calls Try.prog 12 #[hv k g (.slice A ls.length c), .int .u64 (f : Int), .int .u64 (v : Int)] w fun e w' => e = .returned (.tuple #[.int .u64 (sureL (withB f v) 0 ls : Nat), .int .u64 (cutS (withB f v) 0 ls : Nat)]) ∧ Below w.heap.size w w' := by
  obtain ⟨N, hN⟩ : ∃ N, ls.length = N := ⟨_, rfl⟩
  obtain ⟨W0, hW0⟩ : ∃ W, w.alloc (.cells #[.int .i64 k, .int .i64 g, .slice A N c] 28) = W := ⟨_, rfl⟩
  have hB0 : Below w.heap.size w W0 := by rw [← hW0]; exact (Below.refl _ w).alloc (Nat.le_refl _) _
  have hp0 : W0.heap[w.heap.size]? = some (.cells #[.int .i64 k, .int .i64 g, .slice A N c] 28) := by rw [← hW0]; exact heap_alloc_new w _
  have hL0 := h.grow hB0
  have hend : sureTo (withB f v) ls (offB ls N) = sureL (withB f v) 0 ls ∧ cutTo (withB f v) ls (offB ls N) = cutS (withB f v) 0 ls := by
    rw [← hN, off_all, sure_to, cut_to]
    exact ⟨rfl, rfl⟩
  rw [hN] at hl hL0 ⊢
  have HN := Lib.hid hN
  have HW0 := Lib.hid hW0
  have HB0 := Lib.hid hB0
  have HP0 := Lib.hid hp0
  have HL0 := Lib.hid hL0
  have HLV := Lib.hid hlv
  have HE := Lib.hid hend
  clear h hN hW0 hB0 hp0 hL0 hlv hend
  go_enter Try.func12, Try.ntmps12
  go_upto_region 1 with (fail)
  rw [HW0.out]
  clear HW0
  go_wp2
  go_loopw [8, 9, 10] (fun s8 s9 s10 wr => ∃ i : Nat, s10 = .int .i64 (i : Int) ∧ i ≤ N ∧ s8 = .int .u64 (sureTo (withB f v) ls (offB ls i) : Nat) ∧ s9 = .int .u64 (cutTo (withB f v) ls (offB ls i) : Nat) ∧ Below W0.heap.size W0 wr) (fun _ _ s10 _ => N - (intOf s10).toNat)
  case atStart => exact ⟨0, rfl, Nat.zero_le _, by rw [off_zero, sure_zero]; rfl, by rw [off_zero, cut_zero]; rfl, Below.refl _ _⟩
  case round =>
    obtain ⟨i, rfl, hiN, rfl, rfl, hbel⟩ := hrel
    have hh := (hbel.block w.heap.size (lt_of HP0.out)).trans HP0.out
    obtain ⟨x0, x1, x2⟩ := box3 hh
    have lh := lt_of hh
    by_cases hlt : i < N
    · have hil : i < ls.length := by rw [HN.out]; exact hlt
      have hLr := HL0.out.grow hbel
      obtain ⟨b, off, rfl, hb, -, hc⟩ := hLr.at (by omega)
      obtain ⟨Ai, ci, q0, -, -, hLi⟩ := hc i hil
      have hos := off_succ hil
      have hget := fun (j : Nat) (hj : j < ls[i].length) => bk_get hil hj
      have hm6 := HLV.out i
      rw [lev_lt hil] at hm6
      obtain ⟨li, hli⟩ : ∃ l, ls[i] = l := ⟨_, rfl⟩
      have hget2 : ∀ (j : Nat) (hj : j < li.length), (bk 0 ls)[offB ls i + j]? = some (i, li[j]) := by
        subst hli
        exact hget
      rw [hli] at q0 hLi hos hm6
      obtain ⟨m, hm⟩ : ∃ m, li.length = m := ⟨_, rfl⟩
      rw [hm] at q0 hLi hos hm6
      have HGET := Lib.hid hget2
      have HOS := Lib.hid hos
      have HM := Lib.hid hm
      have HLI := Lib.hid hLi
      have Q0 := Lib.hid q0
      have HH := Lib.hid hh
      have HBEL := Lib.hid hbel
      obtain ⟨o, ho⟩ : ∃ o, offB ls i = o := ⟨_, rfl⟩
      rw [ho] at HGET HOS ⊢
      obtain ⟨d, hd⟩ : ∃ d, 2 ^ i = d := ⟨_, rfl⟩
      have hdv := unit_wrap (i := i) (by omega)
      rw [hd] at hdv
      have HD := Lib.hid hd
      clear hc hLi hLr hget hget2 hos hm hli hil ho q0 hh hbel hd x0 x1
      rename World => wo
      go_wp2
      go_loopw [8, 9, 11] (fun s8 s9 s11 wr => ∃ j : Nat, s11 = .int .i64 (j : Int) ∧ j ≤ m ∧ s8 = .int .u64 (sureTo (withB f v) ls (o + j) : Nat) ∧ s9 = .int .u64 (cutTo (withB f v) ls (o + j) : Nat) ∧ Below wo.heap.size wo wr) (fun _ _ s11 _ => m - (intOf s11).toNat)
      case atStart => exact ⟨0, rfl, Nat.zero_le _, rfl, rfl, Below.refl _ _⟩
      case round =>
        obtain ⟨j, rfl, hjm, rfl, rfl, hbel⟩ := hrel
        have hh := (hbel.block w.heap.size (lt_of HH.out)).trans HH.out
        clear x2
        obtain ⟨x0, x1, x2⟩ := box3 hh
        have lh2 := lt_of hh
        have q0 := (hbel.cell (p := ⟨b, off + i, none⟩) hb).trans Q0.out
        have lb : b < wr.heap.size := Nat.lt_of_lt_of_le hb hbel.size
        by_cases hjt : j < m
        · have hjl : j < li.length := by rw [HM.out]; exact hjt
          obtain ⟨b2, off2, rfl, hb2, -, hc2⟩ := sp_at (HLI.out.grow hbel) (by omega)
          obtain ⟨e0, e1⟩ := hc2 j hjl
          have hx := HGET.out j hjl
          obtain ⟨x, hxe⟩ : ∃ x, li[j] = x := ⟨_, rfl⟩
          rw [hxe] at hx e0 e1
          have hns := sure_next (p := withB f v) hx
          have hnc := cut_next (p := withB f v) hx
          have hle := to_le (withB f v) ls (o + j + 1)
          unfold sureV at hns
          unfold cutV at hnc
          dsimp only at hns hnc
          rw [HD.out] at hns hnc
          obtain ⟨t0, ht0⟩ : ∃ t, x.1 = t := ⟨_, rfl⟩
          obtain ⟨t1, ht1⟩ : ∃ t, x.2 = t := ⟨_, rfl⟩
          rw [ht0] at hns hnc e0
          rw [ht1] at hnc e1
          have hw0 := fun W => rwith_any t0 f v W hf
          have hw1 := fun W => rwith_any t1 f v W hf
          obtain ⟨u, hu⟩ : ∃ u, sureTo (withB f v) ls (o + j) = u := ⟨_, rfl⟩
          obtain ⟨y, hy⟩ : ∃ y, cutTo (withB f v) ls (o + j) = y := ⟨_, rfl⟩
          rw [hu] at hns ⊢
          rw [hy] at hnc ⊢
          have hbn : Below wo.heap.size wo (wr.alloc (.cells #[.int .u64 (t0 : Int), .int .u64 (t1 : Int)] 53)) := hbel.alloc hbel.size _
          have HBN := Lib.hid hbn
          clear hbn hbel hh x0 x1 hc2 hx hxe hjl ht0 ht1 hu hy
          obtain ⟨z0, hq0⟩ : ∃ z, withB f v t0 = z := ⟨_, rfl⟩
          obtain ⟨z1, hq1⟩ : ∃ z, withB f v t1 = z := ⟨_, rfl⟩
          rw [hq0] at hns hnc
          rw [hq1] at hnc
          simp only [hq0] at hw0
          simp only [hq1] at hw1
          clear hq0 hq1
          cases z0 with
          | true =>
            rw [if_pos rfl] at hns hnc
            have bd : (u : Int) + (d : Int) ≤ 18446744073709551615 := by omega
            have HNS := Lib.hid hns
            have HNC := Lib.hid hnc
            have HV0 := Lib.hid hw0
            clear hns hnc hle hw0 hw1
            go_wp2_with (go_at_call 21; (with_reducible refine (HV0.out _).mono ?_); rintro e w9 ⟨rfl, rfl⟩)
            refine ⟨⟨j + 1, by go_num, hjt, by rw [← Nat.add_assoc, HNS.out]; go_num, by rw [← Nat.add_assoc, HNC.out]; rfl, HBN.out⟩, by simp [intOf]; omega⟩
          | false =>
            rw [if_neg (by simp)] at hns hnc
            cases z1 with
            | true =>
              rw [if_pos rfl] at hnc
              have bd : (y : Int) + (d : Int) ≤ 18446744073709551615 := by omega
              have HNS := Lib.hid hns
              have HNC := Lib.hid hnc
              have HV0 := Lib.hid hw0
              have HV1 := Lib.hid hw1
              clear hns hnc hle hw0 hw1
              go_wp2_with (first
                | (go_at_call 21; (with_reducible refine (HV0.out _).mono ?_); rintro e w9 ⟨rfl, rfl⟩)
                | (go_at_call 21; (with_reducible refine (HV1.out _).mono ?_); rintro e w9 ⟨rfl, rfl⟩))
              refine ⟨⟨j + 1, by go_num, hjt, by rw [← Nat.add_assoc, HNS.out]; rfl, by rw [← Nat.add_assoc, HNC.out]; go_num, HBN.out⟩, by simp [intOf]; omega⟩
            | false =>
              rw [if_neg (by simp)] at hnc
              have HNS := Lib.hid hns
              have HNC := Lib.hid hnc
              have HV0 := Lib.hid hw0
              have HV1 := Lib.hid hw1
              clear hns hnc hle hw0 hw1
              go_wp2_with (first
                | (go_at_call 21; (with_reducible refine (HV0.out _).mono ?_); rintro e w9 ⟨rfl, rfl⟩)
                | (go_at_call 21; (with_reducible refine (HV1.out _).mono ?_); rintro e w9 ⟨rfl, rfl⟩))
              refine ⟨⟨j + 1, by go_num, hjt, by rw [← Nat.add_assoc, HNS.out]; rfl, by rw [← Nat.add_assoc, HNC.out]; rfl, HBN.out⟩, by simp [intOf]; omega⟩
        · have e : j = m := by omega
          subst e
          have HBL := Lib.hid hbel
          rw [← HOS.out]
          clear hh x0 x1 hbel
          go_wp2
          refine ⟨⟨i + 1, by go_num, hlt, rfl, rfl, HBEL.out.trans (HBL.out.mono HBEL.out.size)⟩, by simp [intOf]; omega⟩
    · have e : i = N := by omega
      subst e
      rw [HE.out.1, HE.out.2]
      have HBEL := Lib.hid hbel
      clear hh x0 x1 hbel
      go_wp2
      refine bodyPost_ret (results_tmp2 rfl _ _ _) rfl ⟨rfl, thn HB0.out HBEL.out⟩

set_option maxHeartbeats 1000000 in
theorem rof_any (k g : Int) (ls : Lv) (hl : ls.length ≤ 60) (hlv : ∀ i, (lev ls i).length ≤ 1000000) (ht : tot ls ≤ 4611686018427387904) (f v : Nat) (hf : f < 18446744073709551616) (w : World) (A : Option Addr) (c : Nat) (h : Levs w w.heap.size (.slice A ls.length c) ls) :
    Calls Try.prog 14 #[hv k g (.slice A ls.length c), .int .u64 (f : Int), .int .u64 (v : Int)] w fun e w' => e = .returned (.int .u64 (estL (withB f v) ls : Nat)) ∧ Below w.heap.size w w' := by
  have hb0 : Below w.heap.size w (w.alloc (.cells #[.int .i64 k, .int .i64 g, .slice A ls.length c] 28)) := (Below.refl _ w).alloc (Nat.le_refl _) _
  have hp := rparts_any k g ls hl hlv ht f v hf _ A c (h.grow hb0)
  have hle := parts_le (withB f v) ls 0
  rw [tot_eq] at hle
  have he : estL (withB f v) ls = sureL (withB f v) 0 ls + cutS (withB f v) 0 ls / 2 := rfl
  obtain ⟨s, hs⟩ : ∃ s, sureL (withB f v) 0 ls = s := ⟨_, rfl⟩
  obtain ⟨y, hy⟩ : ∃ s, cutS (withB f v) 0 ls = s := ⟨_, rfl⟩
  rw [hs, hy] at hp hle he
  have hq : (s : Int) + (y : Int) / 2 = ((estL (withB f v) ls : Nat) : Int) := by omega
  have bd : (s : Int) + (y : Int) / 2 ≤ 18446744073709551615 := by omega
  have HP := Lib.hid hp
  have HB0 := Lib.hid hb0
  have HQ := Lib.hid hq
  clear hp hb0 hq he hs hy h
  go_enter Try.func14, Try.ntmps14
  go_wp2_with (go_at_call 12; refine HP.out.mono ?_; rintro e w1 ⟨rfl, hb1⟩; have HB1 := Lib.hid hb1; clear hb1)
  rw [HQ.out]
  go_ret
  exact ⟨rfl, thn HB0.out HB1.out⟩

end Go.Proofs.Ythmbmiikhghaoaa
