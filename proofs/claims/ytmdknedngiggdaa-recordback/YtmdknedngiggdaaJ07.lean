/- The contract of skylightref06.Same. · The contract of skylightref06.Add. · The contract of skylightref06.Add, where it refuses. · What stage 6's laws call by themselves: same, made, awake; and what weight that comes makes of a histogram. -/
import Derived.Test.YtmdknedngiggdaaJ05
import Derived.Test.YtmdknedngiggdaaJ06
import Derived.Deep.CutRange
section
/- The contract of skylightref06.Same. -/
namespace Go.Proofs.Ytmdknedngiggdaa
open Go.RowKit Go.Shelf Go.Proofs.Rw Go.Proofs.Lh Go.Proofs.Rf

theorem heap_two (w : World) (o0 o1 : Obj) : ∃ W, W = (w.alloc o0).alloc o1 ∧ W.heap.size = w.heap.size + 2 ∧ W.heap[w.heap.size]? = some o0 ∧ W.heap[w.heap.size + 1]? = some o1 ∧ Below w.heap.size w W := by
  refine ⟨_, rfl, by simp, ?_, ?_, ((Below.refl _ w).alloc (Nat.le_refl _) _).alloc (by simp) _⟩
  · rw [Below.heap_alloc _ _ _ (by simp)]
    exact World.alloc_heap_new w _
  · have := World.alloc_heap_new (w.alloc o0) o1
    simpa using this

set_option maxRecDepth 100000 in
set_option maxHeartbeats 2000000 in
theorem rsame_eq (ka ga : Int) (la lb : Lv) (N : Nat) (hN : N ≤ 1000000) (hla : la.length = N) (hlb : lb.length = N) (hl : ∀ i, (lev la i).length ≤ 10000000) (w : World) (A A2 : Option Addr) (c c2 : Nat) (h : Levs w w.heap.size (.slice A N c) la) (h2 : Levs w w.heap.size (.slice A2 N c2) lb) :
    Calls Try.prog 40 #[hv ka ga (.slice A N c), hv ka ga (.slice A2 N c2)] w fun e w' => e = .returned (.bool (decide (la = lb))) ∧ Below w.heap.size w w' := by
  obtain ⟨W0, hW0, hsz, p0, p1, hB0⟩ := heap_two w (.cells #[.int .i64 ka, .int .i64 ga, .slice A N c] 27) (.cells #[.int .i64 ka, .int .i64 ga, .slice A2 N c2] 27)
  have HW0 := Lib.hid hW0
  have HLA := Lib.hid h
  have HLB := Lib.hid h2
  have HNA := Lib.hid hla
  have HNB := Lib.hid hlb
  have HLL := Lib.hid hl
  have HB0 := Lib.hid hB0
  have HSZ := Lib.hid hsz
  have P0 := Lib.hid p0
  have P1 := Lib.hid p1
  clear h h2 hla hlb hl hW0 hB0 hsz p0 p1
  go_enter Try.func40, Try.ntmps40
  go_wp2
  rw [← HW0.out]
  clear HW0
  go_loopw [5] (fun i wr => ∃ j : Nat, i = .int .i64 (j : Int) ∧ j ≤ N ∧ (∀ i, i < j → lev la i = lev lb i) ∧ Below W0.heap.size W0 wr) (fun i _ => N - (intOf i).toNat)
  case atStart => exact ⟨0, rfl, Nat.zero_le _, fun i hi => absurd hi (by omega), Below.refl _ _⟩
  case round =>
    obtain ⟨j, rfl, hj, hall, hbel⟩ := hrel
    have hz := HSZ.out
    have r0 := (hbel.block w.heap.size (by omega)).trans P0.out
    have r1 := (hbel.block (w.heap.size + 1) (by omega)).trans P1.out
    have x0 := (box3 r0).2.2
    have x1 := (box3 r1).2.2
    have l0 := lt_of r0
    have l1 := lt_of r1
    have HBEL := Lib.hid hbel
    have hbw : Below w.heap.size w wr := thn HB0.out hbel
    have hLa := HLA.out.grow hbw
    have hLb := HLB.out.grow hbw
    by_cases hlt : j < N
    · have ja : j < la.length := by rw [HNA.out]; exact hlt
      have jb : j < lb.length := by rw [HNB.out]; exact hlt
      obtain ⟨ba, oa, rfl, hba, -, hca⟩ := hLa.at (by omega)
      obtain ⟨bb, ob, rfl, hbb, -, hcb⟩ := hLb.at (by omega)
      obtain ⟨Ai, ci, y0, -, -, hLi⟩ := hca j ja
      obtain ⟨Bi, di, y1, -, -, hLj⟩ := hcb j jb
      rw [← lev_lt ja] at y0 hLi
      rw [← lev_lt jb] at y1 hLj
      have hll := HLL.out j
      obtain ⟨q, hq⟩ : ∃ q, decide (lev la j = lev lb j) = q := ⟨_, rfl⟩
      obtain ⟨ni, hni⟩ : ∃ n, (lev la j).length = n := ⟨_, rfl⟩
      obtain ⟨mi, hmi⟩ : ∃ n, (lev lb j).length = n := ⟨_, rfl⟩
      have heq : ∀ W2, Grows wr W2 → Calls Try.prog 59 #[.slice Ai ni ci, .slice Bi mi di] W2 fun e w' => e = .returned (.bool q) ∧ Below W2.heap.size W2 w' := by
        intro W2 hG
        have hg : Below wr.heap.size wr W2 := hG
        have := rEq_any (lev la j) (lev lb j) hll W2 W2.heap.size (Nat.le_refl _) Ai Bi ci di (hLi.grow hg) (hLj.grow hg)
        rw [hq, hni, hmi] at this
        exact this
      rw [hni] at y0
      rw [hmi] at y1
      have hall2 : lev la j = lev lb j → ∀ i, i < j + 1 → lev la i = lev lb i := fun he i hi => by
        rcases Nat.lt_or_ge i j with h | h
        · exact hall i h
        · have e : i = j := by omega
          rw [e]
          exact he
      have HEQ := Lib.hid heq
      have HQ := Lib.hid hq
      have HALL := Lib.hid hall2
      have H0 := Lib.hid x0
      have H1 := Lib.hid x1
      have H2 := Lib.hid y0
      have H3 := Lib.hid y1
      have HL0 := Lib.hid l0
      have HL1 := Lib.hid l1
      have HL2 := Lib.hid hba
      have HL3 := Lib.hid hbb
      have hjN : (j : Int) < (N : Int) := by omega
      clear heq hq hall hall2 y0 y1 hni hmi hLi hLj hca hcb hLa hLb hbel hbw hz r0 r1 hll ja jb HLA HLB
      go_upto_region 6 with (fail)
      refine region_facts0 (fr := ?frA) 11 [34, 35, 36, 37, 38, 39, 40, 41, 42, 43, 44] (fun i v W => match i with
          | 0 => v = .pointer (some ⟨w.heap.size, 2, none⟩)
          | 1 => v = .slice (some ⟨ba, oa, none⟩) N c
          | 2 => v = .int .i64 (j : Int)
          | 3 => v = .pointer (some ⟨ba, oa + j, none⟩)
          | 4 => v = .slice Ai ni ci
          | 5 => v = .pointer (some ⟨w.heap.size + 1, 2, none⟩)
          | 6 => v = .slice (some ⟨bb, ob, none⟩) N c2
          | 7 => v = .int .i64 (j : Int)
          | 8 => v = .pointer (some ⟨bb, ob + j, none⟩)
          | 9 => v = .slice Bi mi di
          | 10 => v = .bool q
          | _ => True) rfl ?hBA (by kernel_rfl) (by kernel_rfl) (by kernel_rfl) ?hfrA ?hFA ?hopA ?htailA
      case hBA => kernel_rfl
      case hfrA =>
        intro us
        simp only [putL]
        go_simp
        rfl
      case hFA =>
        intro i v W W' hG h
        match i with
        | 0 => exact h
        | 1 => exact h
        | 2 => exact h
        | 3 => exact h
        | 4 => exact h
        | 5 => exact h
        | 6 => exact h
        | 7 => exact h
        | 8 => exact h
        | 9 => exact h
        | 10 => exact h
        | n + 11 => trivial
      case hopA =>
        intro i hi us W2 hG hd
        match i, hi with
        | 0, _ =>
          clear hd
          exact hop_value rfl rfl rfl (v := .pointer (some ⟨w.heap.size, 2, none⟩)) (W' := W2) (by go_simp) (Grows.refl _) rfl
        | 1, _ =>
          have h0 : us 0 = .pointer (some ⟨w.heap.size, 2, none⟩) := hd 0 (by omega) (by kernel_rfl)
          clear hd
          have q0 := (hG.cell (b := w.heap.size) (o := 2) HL0.out).trans H0.out
          have q0l := Nat.lt_of_lt_of_le HL0.out hG.size
          exact hop_value rfl rfl rfl (v := .slice (some ⟨ba, oa, none⟩) N c) (W' := W2) (by go_simp) (Grows.refl _) rfl
        | 2, _ =>
          clear hd
          exact hop_value rfl rfl rfl (v := .int .i64 (j : Int)) (W' := W2) (by go_simp) (Grows.refl _) rfl
        | 3, _ =>
          have h1 : us 1 = .slice (some ⟨ba, oa, none⟩) N c := hd 1 (by omega) (by kernel_rfl)
          have h2 : us 2 = .int .i64 (j : Int) := hd 2 (by omega) (by kernel_rfl)
          clear hd
          exact hop_value rfl rfl rfl (v := .pointer (some ⟨ba, oa + j, none⟩)) (W' := W2) (by go_simp) (Grows.refl _) rfl
        | 4, _ =>
          have h3 : us 3 = .pointer (some ⟨ba, oa + j, none⟩) := hd 3 (by omega) (by kernel_rfl)
          clear hd
          have q0 := (hG.cell (b := ba) (o := oa + j) HL2.out).trans H2.out
          have q0l := Nat.lt_of_lt_of_le HL2.out hG.size
          exact hop_value rfl rfl rfl (v := .slice Ai ni ci) (W' := W2) (by go_simp) (Grows.refl _) rfl
        | 5, _ =>
          clear hd
          exact hop_value rfl rfl rfl (v := .pointer (some ⟨w.heap.size + 1, 2, none⟩)) (W' := W2) (by go_simp) (Grows.refl _) rfl
        | 6, _ =>
          have h5 : us 5 = .pointer (some ⟨w.heap.size + 1, 2, none⟩) := hd 5 (by omega) (by kernel_rfl)
          clear hd
          have q0 := (hG.cell (b := w.heap.size + 1) (o := 2) HL1.out).trans H1.out
          have q0l := Nat.lt_of_lt_of_le HL1.out hG.size
          exact hop_value rfl rfl rfl (v := .slice (some ⟨bb, ob, none⟩) N c2) (W' := W2) (by go_simp) (Grows.refl _) rfl
        | 7, _ =>
          clear hd
          exact hop_value rfl rfl rfl (v := .int .i64 (j : Int)) (W' := W2) (by go_simp) (Grows.refl _) rfl
        | 8, _ =>
          have h6 : us 6 = .slice (some ⟨bb, ob, none⟩) N c2 := hd 6 (by omega) (by kernel_rfl)
          have h7 : us 7 = .int .i64 (j : Int) := hd 7 (by omega) (by kernel_rfl)
          clear hd
          exact hop_value rfl rfl rfl (v := .pointer (some ⟨bb, ob + j, none⟩)) (W' := W2) (by go_simp) (Grows.refl _) rfl
        | 9, _ =>
          have h8 : us 8 = .pointer (some ⟨bb, ob + j, none⟩) := hd 8 (by omega) (by kernel_rfl)
          clear hd
          have q0 := (hG.cell (b := bb) (o := ob + j) HL3.out).trans H3.out
          have q0l := Nat.lt_of_lt_of_le HL3.out hG.size
          exact hop_value rfl rfl rfl (v := .slice Bi mi di) (W' := W2) (by go_simp) (Grows.refl _) rfl
        | 10, _ =>
          have h4 : us 4 = .slice Ai ni ci := hd 4 (by omega) (by kernel_rfl)
          have h9 : us 9 = .slice Bi mi di := hd 9 (by omega) (by kernel_rfl)
          clear hd
          refine hop_call rfl rfl rfl (f := 59) (args := #[.slice Ai ni ci, .slice Bi mi di]) (by go_simp) ?_
          refine (HEQ.out W2 hG).mono ?_
          rintro e W' ⟨rfl, hb⟩
          exact ⟨_, rfl, hb, rfl⟩
        | d + 11, h => exact absurd h (by omega)
      case htailA =>
        intro us W2 hG hf
        have h10 : us 10 = .bool q := hf 10 (by omega)
        clear hf
        rw [h10]
        have HG2 := Lib.hid hG
        clear h10 hG
        simp only [List.drop_succ_cons, List.drop_zero]
        cases q with
        | true =>
          repeat (go_big_quiet_step (fail))
          refine wpQuiet_nil ?_
          rintro w' ⟨nq, rfl⟩
          have HB2 := Lib.hid (thn HBEL.out (below_drewN HG2.out nq))
          clear HG2
          generalize W2.drewN nq = wy at *
          go_wp2
          refine ⟨⟨j + 1, by go_num, hlt, HALL.out (of_decide_eq_true HQ.out), HB2.out⟩, by simp [intOf]; omega⟩
        | false =>
          repeat (go_big_quiet_step (fail))
          refine wpQuiet_nil ?_
          rintro w' ⟨nq, rfl⟩
          have HB2 := Lib.hid (thn HBEL.out (below_drewN HG2.out nq))
          clear HG2
          generalize W2.drewN nq = wy at *
          go_wp2
          go_ret
          refine ⟨ret_b ?_, thn HB0.out HB2.out⟩
          symm
          rw [decide_eq_false_iff_not]
          intro e
          have := of_decide_eq_false HQ.out
          exact this (by rw [e])
    · have e : j = N := by omega
      subst e
      have hee : la = lb := by
        refine List.ext_getElem (by rw [HNA.out, HNB.out]) fun i h1 h2 => ?_
        have := hall i (by rw [← HNA.out]; exact h1)
        rw [lev_lt h1, lev_lt h2] at this
        exact this
      have HE := Lib.hid hee
      clear hall hee hLa hLb r0 r1 hz hbel hbw
      go_wp2
      go_ret
      exact ⟨ret_b (by simp [HE.out]), thn HB0.out HBEL.out⟩

set_option maxHeartbeats 1000000 in
theorem rsame_any (ka ga kb gb : Int) (la lb : Lv) (hN : la.length ≤ 1000000) (hl : ∀ i, (lev la i).length ≤ 10000000) (w : World) (A A2 : Option Addr) (c c2 : Nat) (h : Levs w w.heap.size (.slice A la.length c) la) (h2 : Levs w w.heap.size (.slice A2 lb.length c2) lb) :
    Calls Try.prog 40 #[hv ka ga (.slice A la.length c), hv kb gb (.slice A2 lb.length c2)] w fun e w' => e = .returned (.bool (sameB ka ga kb gb la lb)) ∧ Below w.heap.size w w' := by
  have hb0 : Below w.heap.size w ((w.alloc (.cells #[.int .i64 ka, .int .i64 ga, .slice A la.length c] 27)).alloc (.cells #[.int .i64 kb, .int .i64 gb, .slice A2 lb.length c2] 27)) := ((Below.refl _ w).alloc (Nat.le_refl _) _).alloc (by simp) _
  have HB0 := Lib.hid hb0
  clear hb0
  by_cases h1 : ka = kb
  · by_cases h3 : ga = gb
    · by_cases h4 : la.length = lb.length
      · subst h1 h3
        have hs : sameB ka ga ka ga la lb = decide (la = lb) := by simp [sameB]
        rw [hs]
        have := rsame_eq ka ga la lb la.length hN rfl h4.symm hl w A A2 c c2 h (by rw [h4]; exact h2)
        rw [h4] at this ⊢
        exact this
      · have hs : sameB ka ga kb gb la lb = false := by
          simp only [sameB, decide_eq_false_iff_not]
          rintro ⟨_, _, e⟩
          exact h4 (by rw [e])
        rw [hs]
        subst h1 h3
        have hz : ((la.length : Int) == (lb.length : Int)) = false := by rw [beq_eq_false_iff_ne]; omega
        clear hs h4 h h2
        go_enter Try.func40, Try.ntmps40
        go_wp2
        go_ret
        exact ⟨rfl, HB0.out⟩
    · have hs : sameB ka ga kb gb la lb = false := by simp [sameB, h3]
      rw [hs]
      subst h1
      have hz : (ga == gb) = false := by rw [beq_eq_false_iff_ne]; exact h3
      clear hs h3 h h2
      go_enter Try.func40, Try.ntmps40
      go_wp2
      go_ret
      exact ⟨rfl, HB0.out⟩
  · have hs : sameB ka ga kb gb la lb = false := by simp [sameB, h1]
    rw [hs]
    have hz : (ka != kb) = true := by simpa using h1
    clear hs h h2
    go_enter Try.func40, Try.ntmps40
    go_wp2
    go_ret
    exact ⟨rfl, HB0.out⟩

end Go.Proofs.Ytmdknedngiggdaa
end
section
/- The contract of skylightref06.Add. -/
namespace Go.Proofs.Ytmdknedngiggdaa
open Go.RowKit Go.Shelf Go.Proofs.Rw Go.Proofs.Lh Go.Proofs.Rf
open Go.Proofs.Lm (stay went leftN)

theorem take_one {R : Lv} {j : Nat} (h : j < R.length) {st : List Sp} (hs : st = lev R j) : R.take j ++ [st] = R.take (j + 1) := by
  rw [hs, lev_lt h, List.take_succ_eq_append_getElem h]

set_option maxRecDepth 100000 in
set_option maxHeartbeats 4000000 in
theorem radd_ok (k : Nat) (g : Int) (ls : Lv) (hmd : Made k ls) (t n0 : Nat) (hc : code ls t n0 = 0) (w : World) (A : Option Addr) (c : Nat) (h : Levs w w.heap.size (.slice A ls.length c) ls) :
    Calls Try.prog 46 #[hv k g (.slice A ls.length c), .int .u64 t, .int .u64 n0] w fun e w' => ∃ v, e = hret (hv k g v) 0 ∧ Levs w' w'.heap.size v (addW k ls t n0) ∧ Below w.heap.size w w' := by
  have hm2 := hmd.add hc
  obtain ⟨N, hN⟩ : ∃ N, ls.length = N := ⟨_, rfl⟩
  obtain ⟨W0, hW0, hsz, p0, p1, hB0⟩ := heap_two w (.cells #[.int .i64 k, .int .i64 g, .slice A N c] 27) (.cells #[.int .i64 0, .int .i64 0, .slice none 0 0] 27)
  have hla := rlast_any k g ls W0 A c (h.grow hB0) (by have := hmd.lev 0; omega)
  have hto := fun (W : World) (hW : Below w.heap.size w W) => rtotal_any k g ls (by have := hmd.len; omega) (by have := hmd.small; omega) W A c (h.grow hW)
  obtain ⟨R, hR⟩ : ∃ R, addW k ls t n0 = R := ⟨_, rfl⟩
  rw [hR] at hm2 ⊢
  have hRl : R.length ≤ 1000 := by have := hm2.len; omega
  obtain ⟨L, hL⟩ : ∃ L, (lastOf ls).getD 0 = L := ⟨_, rfl⟩
  obtain ⟨lb, hlb⟩ : ∃ b, (lastOf ls).isSome = b := ⟨_, rfl⟩
  obtain ⟨T, hT⟩ : ∃ T, tot ls = T := ⟨_, rfl⟩
  have hcode := hc
  unfold code at hcode
  rw [hL, hT] at hcode
  have hc0 : n0 ≠ 0 := fun e => by rw [if_pos e] at hcode; omega
  rw [if_neg hc0] at hcode
  have hc1 : ¬ (9223372036854775807 < t ∨ t < L) := fun e => by rw [if_pos e] at hcode; omega
  rw [if_neg hc1] at hcode
  have hc2 : ¬ (4503599627370496 < n0 ∨ 4503599627370496 < n0 + T) := fun e => by rw [if_pos e] at hcode; omega
  unfold lastV at hla
  rw [hL, hlb, hN] at hla
  rw [hT, hN] at hto
  have hn0 : n0 ≤ 4503599627370496 := by omega
  have hat0 : At k ls t R 0 [] n0 := hR ▸ At.start k ls t n0 hn0
  have HA0 := Lib.hid hat0
  have HLA := Lib.hid hla
  have HTO := Lib.hid hto
  have HL := Lib.hid h
  have HMD := Lib.hid hmd
  have HW0 := Lib.hid hW0
  have HSZ := Lib.hid hsz
  have P0 := Lib.hid p0
  have P1 := Lib.hid p1
  have HB0 := Lib.hid hB0
  have HN := Lib.hid hN
  have d0 : ((n0 : Int) == 0) = false := by rw [beq_eq_false_iff_ne]; omega
  have d1 : decide ((9223372036854775807 : Int) < t) = false := by simp; omega
  have d2 : decide (t < L) = false := by simp; omega
  have d3 : decide ((4503599627370496 : Int) < n0) = false := by simp; omega
  have d4 : decide ((4503599627370496 : Int) < (n0 : Int) + T) = false := by simp; omega
  have b4 : (n0 : Int) + T ≤ 18446744073709551615 := by omega
  rw [hN]
  clear hla hto h hmd hm2 hc hcode hc1 hL hlb hT hR hat0 hN hW0 hsz p0 p1 hB0
  go_enter Try.func46, Try.ntmps46
  go_upto_region 3 with (fail)
  rw [← HW0.out]
  clear HW0
  have z0 := HSZ.out
  obtain ⟨q0, q1, q2⟩ := box3 P0.out
  have l0 : w.heap.size < W0.heap.size := by omega
  go_upto_region 4 with (go_at_call 63; refine HLA.out.mono ?_; rintro e w1 ⟨rfl, hb1⟩; have HB1 := Lib.hid hb1; clear hb1)
  have m1 : W0.heap.size ≤ w1.heap.size := HB1.out.size
  have r0 := (HB1.out.block w.heap.size (by omega)).trans P0.out
  obtain ⟨s0, s1, s2⟩ := box3 r0
  have l1 : w.heap.size < w1.heap.size := by omega
  clear q0 q1 q2 r0 z0
  go_cut [34] from 25 to 34 (fun s34 wx => s34 = .bool false ∧ w1 = wx)
  case first =>
    cases lb
    · go_wp2
      go_meet
      case rel => exact ⟨rfl, rfl⟩
    · go_wp2
      go_meet
      case rel => exact ⟨by first | rfl | exact congrArg Value.bool d2, rfl⟩
  case rest =>
    obtain ⟨rfl, rfl⟩ := hcut
    clear d2
    go_upto_region 8 with (go_at_call 45; refine (HTO.out _ (thn HB0.out HB1.out)).mono ?_; rintro e w2 ⟨rfl, hb2⟩; have HB2 := Lib.hid hb2; clear hb2)
    have m2 : w1.heap.size ≤ w2.heap.size := HB2.out.size
    have hbh := ((HB2.out.block w.heap.size (by omega)).trans ((HB1.out.block w.heap.size (by have := HSZ.out; omega)).trans P0.out))
    have hbr := ((HB2.out.block (w.heap.size + 1) (by have := HSZ.out; omega)).trans ((HB1.out.block (w.heap.size + 1) (by have := HSZ.out; omega)).trans P1.out))
    obtain ⟨t0, t1, t2⟩ := box3 hbh
    have l2 : w.heap.size < w2.heap.size := by omega
    have l3 : w.heap.size + 1 < w2.heap.size := lt_of hbr
    have HBH := Lib.hid hbh
    have HBR := Lib.hid hbr
    have HBW2 := Lib.hid (thn (thn HB0.out HB1.out) HB2.out)
    clear s0 s1 s2 hbh hbr d0 d1 d3 d4 b4 HLA HTO HB1 HB2 m1 m2 l0 l1 P0 P1
    go_wp2
    obtain ⟨bO, hbO⟩ : ∃ b, w2.heap.size = b := ⟨_, rfl⟩
    obtain ⟨wL, hwL⟩ : ∃ W, w2.alloc (.cells #[.int .i64 k, .int .i64 g, .slice none 0 0] 27) = W := ⟨_, rfl⟩
    have y0 : wL.heap[bO]? = some (.cells #[.int .i64 k, .int .i64 g, .slice none 0 0] 27) := by rw [← hwL, ← hbO]; exact heap_alloc_new w2 _
    have y1 : Below bO w2 wL := by rw [← hwL, ← hbO]; exact (Below.refl _ w2).alloc (Nat.le_refl _) _
    rw [hwL, hbO]
    have Y0 := Lib.hid y0
    have Y1 := Lib.hid y1
    have HBO := Lib.hid hbO
    have hlO : w.heap.size + 1 < bO := by omega
    clear hwL hbO y0 y1 t0 t1 t2 l2 l3
    go_loopw [11, 12, 13] (fun s11 s12 s13 wr => ∃ (j : Nat) (come : List Sp) (many : Nat) (A2 : Option Addr) (n2 c2 : Nat) (v : Value), s11 = .slice A2 n2 c2 ∧ s12 = .int .u64 (many : Int) ∧ s13 = .int .i64 (j : Int) ∧ come.length = n2 ∧ j ≤ R.length ∧ At k ls t R j come many ∧ Lies spL wr wr.heap.size (.slice A2 n2 c2) come ∧ (come ≠ [] → ∀ b, (Value.slice A2 n2 c2).ownBlock = some b → b ≠ bO ∧ v.ownBlock ≠ some b) ∧ wr.heap[bO]? = some (.cells #[.int .i64 (k : Int), .int .i64 g, v] 27) ∧ OwnL (fun b => bO < b) wr (bO + 1) v (R.take j) ∧ Below bO w2 wr) (fun _ _ s13 _ => R.length - (intOf s13).toNat)
    case atStart => exact ⟨0, [], n0, none, 0, 0, _, rfl, rfl, rfl, rfl, Nat.zero_le _, HA0.out, Lies.nil _ _ (by unfold maxLen; omega), fun h => absurd rfl h, Y0.out, OwnLevs.nil _ _ _ _, Y1.out⟩
    case round =>
      obtain ⟨j, come, many, A2, n2, c2, v, rfl, rfl, rfl, hn2, hjR, hAt, hcome, hcb, hox, how, hbel⟩ := hrel
      have hbw : Below w.heap.size w wr := HBW2.out.trans (hbel.mono (by omega))
      have hLr : Levs wr w.heap.size (.slice A N c) ls := by rw [← HN.out]; exact HL.out.below hbw
      have pH := (hbel.block w.heap.size (by omega)).trans HBH.out
      obtain ⟨x0, x1, x2⟩ := box3 pH
      have hlh := lt_of pH
      have hlo := lt_of hox
      have hws : w.heap.size ≤ wr.heap.size := by omega
      have hmost := hAt.most
      have hfew := hAt.few
      have hlj := HMD.out.lev j
      obtain ⟨l, hl⟩ : ∃ l, lev ls j = l := ⟨_, rfl⟩
      rw [hl] at hlj
      obtain ⟨m, hm⟩ : ∃ m, l.length = m := ⟨_, rfl⟩
      obtain ⟨M, hM⟩ : ∃ M, leastI k j + 1 = M := ⟨_, rfl⟩
      have hk1 := HMD.out.k1
      have hM2 : M ≤ 1000000 := by have := least_small k j hk1; omega
      have hat : ∀ W2, Grows wr W2 → Calls Try.prog 65 #[.agg #[.int .i64 (k : Int), .int .i64 g, .slice A N c], .int .i64 (j : Int)] W2 fun e w' => ∃ A' c', e = .returned (.slice A' m c') ∧ Lies spL W2 W2.heap.size (.slice A' m c') l ∧ Below W2.heap.size W2 w' := by
        intro W2 hG
        have hg : Below wr.heap.size wr W2 := hG
        have := rat_any k g ls j W2 w.heap.size (Nat.le_trans hws hg.size) A c (by rw [HN.out]; exact hLr.below (hg.mono hws))
        rw [hl, hm, HN.out] at this
        refine this.mono ?_
        rintro e w' ⟨A', c', he, hL, hb⟩
        exact ⟨A', c', he, hL.mono (Nat.le_trans hws hg.size), hb⟩
      have hmo : ∀ W2, Calls Try.prog 61 #[.int .i64 (k : Int), .int .i64 (j : Int)] W2 fun e w' => e = .returned (.int .i64 M) ∧ W2 = w' := by
        intro W2
        rw [← hM]
        exact rMost_any k j (by omega) W2
      obtain ⟨st, hst⟩ : ∃ st, stay (l ++ come) t many (rm k j) = st := ⟨_, rfl⟩
      obtain ⟨we, hwe⟩ : ∃ we, went (l ++ come) t many (rm k j) = we := ⟨_, rfl⟩
      obtain ⟨lf, hlf⟩ : ∃ lf, leftN (l ++ come).length many (rm k j) = lf := ⟨_, rfl⟩
      obtain ⟨ns, hns⟩ : ∃ n, st.length = n := ⟨_, rfl⟩
      obtain ⟨nw, hnw⟩ : ∃ n, we.length = n := ⟨_, rfl⟩
      have hpu : ∀ W2, Grows wr W2 → ∀ A' c', Lies spL W2 W2.heap.size (.slice A' m c') l → Calls Try.prog 64 #[.slice A' m c', .int .i64 M, .slice A2 n2 c2, .int .u64 (many : Int), .int .u64 (t : Int)] W2 fun e w' => ∃ (A3 : Option Addr) (c3 : Nat) (A4 : Option Addr) (c4 : Nat), e = .returned (.tuple #[.slice A3 ns c3, .slice A4 nw c4, .int .u64 (lf : Int)]) ∧ Lies spL w' w'.heap.size (.slice A3 ns c3) st ∧ Lies spL w' w'.heap.size (.slice A4 nw c4) we ∧ Below W2.heap.size W2 w' ∧ ∀ b, (Value.slice A3 ns c3).ownBlock = some b ∨ (Value.slice A4 nw c4).ownBlock = some b → W2.heap.size ≤ b ∧ Ty w' 73 b := by
        intro W2 hG A' c' hLl
        have hg : Below wr.heap.size wr W2 := hG
        have := rPush_any2 l come M many t (by omega) hM2 (by omega) W2 A' A2 c' c2 (by rw [hm]; exact hLl) (by rw [hn2]; exact hcome.grow hg)
        rw [← hM, room_rm, hst, hwe, hlf, hm, hn2, hM] at this
        refine this.mono ?_
        rintro e w' ⟨v1, v2, he, l1, l2, hb, hnew⟩
        obtain ⟨A3, c3, rfl, -, -, l1'⟩ := l1.form
        obtain ⟨A4, c4, rfl, -, -, l2'⟩ := l2.form
        rw [hns] at l1' he hnew
        rw [hnw] at l2' he hnew
        exact ⟨A3, c3, A4, c4, he, l1', l2', hb, hnew⟩
      have hnext : full come t many ≠ [] ∨ j < ls.length → j < R.length ∧ st = lev R j ∧ At k ls t R (j + 1) we lf := by
        intro hgo
        obtain ⟨a1, a2, a3⟩ := hAt.next (by rw [hl]; omega) hgo
        rw [hl, hst] at a2
        rw [hl, hwe, hlf] at a3
        exact ⟨a1, a2.symm, a3⟩
      have hdone : ls.length ≤ j → full come t many = [] → R.length ≤ j := fun h1 hz => hAt.over h1 hz
      have hvo : v.ownBlock ≠ some bO := fun e => by have := (how.lt bO e).1; omega
      have HAT := Lib.hid hat
      have HM := Lib.hid hmo
      have HPU := Lib.hid hpu
      have HNX := Lib.hid hnext
      have HDN := Lib.hid hdone
      have HN2 := Lib.hid hn2
      have HJR := Lib.hid hjR
      have HNW := Lib.hid hnw
      have HVO := Lib.hid hvo
      have HOX := Lib.hid hox
      have HOW := Lib.hid how
      have HBEL := Lib.hid hbel
      have HLO := Lib.hid hlo
      have HLH := Lib.hid hlh
      have H0 := Lib.hid x0
      have H1 := Lib.hid x1
      have H2 := Lib.hid x2
      clear hat hmo hpu hnext hdone hAt pH hLr hst hwe hlf hM hl hm hlj hk1 hM2 hn2 hjR hns hnw hvo how hbel hbw hcome hcb Y0 Y1 HA0
      by_cases hgo : 0 < n2 ∨ 0 < many ∨ j < N
      · obtain ⟨hRJ, hST, hAN⟩ := HNX.out (by
          rcases hgo with h1 | h1 | h1
          · exact .inl fun e => by have := (full_nil.1 e).1; have := HN2.out; omega
          · exact .inl fun e => by have := (full_nil.1 e).2; omega
          · exact .inr (by rw [HN.out]; exact h1))
        have HRJ := Lib.hid hRJ
        have HTK := Lib.hid (take_one hRJ hST)
        have HAN := Lib.hid hAN
        have hjj : j < 1000 := by omega
        clear hRJ hST hAN HNX HDN HN2
        go_upto_region 12 with (fail)
        go_cut [65] from 52 to 90 (fun s65 wx => s65 = .bool true ∧ wr = wx)
        case first =>
          by_cases h1 : 0 < n2
          · have g1 : decide (0 < n2) = true := by simpa using h1
            clear hgo
            go_wp2
            go_meet
            case rel => exact ⟨rfl, rfl⟩
          · have g1 : decide (0 < n2) = false := by simpa using h1
            by_cases h2 : 0 < many
            · have g2 : decide (0 < many) = true := by simpa using h2
              clear hgo
              go_wp2
              go_meet
              case rel => exact ⟨by first | rfl | exact congrArg Value.bool g2, rfl⟩
            · have g2 : decide (0 < many) = false := by simpa using h2
              have h3 : j < N := by omega
              have g3 : decide (j < N) = true := by simpa using h3
              clear hgo
              go_wp2
              go_meet
              case rel => exact ⟨by first | rfl | exact congrArg Value.bool g3, rfl⟩
        case rest =>
          obtain ⟨rfl, rfl⟩ := hcut
          clear hgo x0 x1 x2 hox
          go_upto_region 14 with (fail)
          refine region_facts0 (fr := ?frA) 11 [69, 70, 71, 72, 73, 74, 75, 76, 77, 78, 79] (fun i v W => match i with
              | 0 => v = .agg #[.int .i64 (k : Int), .int .i64 g, .slice A N c]
              | 1 => v = .int .i64 (j : Int)
              | 2 => ∃ A' c', v = .slice A' m c' ∧ Lies spL W W.heap.size (.slice A' m c') l
              | 3 => v = .pointer (some ⟨w.heap.size, 0, none⟩)
              | 4 => v = .int .i64 (k : Int)
              | 5 => v = .int .i64 (j : Int)
              | 6 => v = .int .i64 M
              | 7 => v = .slice A2 n2 c2
              | 8 => v = .int .u64 (many : Int)
              | 9 => v = .int .u64 (t : Int)
              | 10 => ∃ (A3 : Option Addr) (c3 : Nat) (A4 : Option Addr) (c4 : Nat), v = .tuple #[.slice A3 ns c3, .slice A4 nw c4, .int .u64 (lf : Int)] ∧ Lies spL W W.heap.size (.slice A3 ns c3) st ∧ Lies spL W W.heap.size (.slice A4 nw c4) we ∧ ∀ b, (Value.slice A3 ns c3).ownBlock = some b ∨ (Value.slice A4 nw c4).ownBlock = some b → wr.heap.size ≤ b ∧ Ty W 73 b
              | _ => True) rfl ?hBA (by kernel_rfl) (by kernel_rfl) (by kernel_rfl) ?hfrA ?hFA ?hopA ?htailA
          case hBA => kernel_rfl
          case hfrA =>
            intro us
            simp only [putL]
            go_simp
            rfl
          case hFA =>
            intro i v W W' hG h
            match i with
            | 0 => exact h
            | 1 => exact h
            | 2 => obtain ⟨A', c', h1, h2⟩ := h; exact ⟨A', c', h1, h2.grow hG⟩
            | 3 => exact h
            | 4 => exact h
            | 5 => exact h
            | 6 => exact h
            | 7 => exact h
            | 8 => exact h
            | 9 => exact h
            | 10 => obtain ⟨A3, c3, A4, c4, h1, h2, h3, h4⟩ := h; exact ⟨A3, c3, A4, c4, h1, h2.grow hG, h3.grow hG, fun b hb => ⟨(h4 b hb).1, (h4 b hb).2.keep (Below.block hG b (h4 b hb).2.lt)⟩⟩
            | n + 11 => trivial
          case hopA =>
            intro i hi us W2 hG hd
            match i, hi with
            | 0, _ =>
              clear hd
              have q0 := (hG.cell (b := w.heap.size) (o := 0) HLH.out).trans H0.out
              have q0l := Nat.lt_of_lt_of_le HLH.out hG.size
              have q1 := (hG.cell (b := w.heap.size) (o := 1) HLH.out).trans H1.out
              have q1l := Nat.lt_of_lt_of_le HLH.out hG.size
              have q2 := (hG.cell (b := w.heap.size) (o := 2) HLH.out).trans H2.out
              have q2l := Nat.lt_of_lt_of_le HLH.out hG.size
              exact hop_value rfl rfl rfl (v := .agg #[.int .i64 (k : Int), .int .i64 g, .slice A N c]) (W' := W2) (by go_simp) (Grows.refl _) rfl
            | 1, _ =>
              clear hd
              exact hop_value rfl rfl rfl (v := .int .i64 (j : Int)) (W' := W2) (by go_simp) (Grows.refl _) rfl
            | 2, _ =>
              have h0 : us 0 = .agg #[.int .i64 (k : Int), .int .i64 g, .slice A N c] := hd 0 (by omega) (by kernel_rfl)
              have h1 : us 1 = .int .i64 (j : Int) := hd 1 (by omega) (by kernel_rfl)
              clear hd
              refine hop_call rfl rfl rfl (f := 65) (args := #[.agg #[.int .i64 (k : Int), .int .i64 g, .slice A N c], .int .i64 (j : Int)]) (by go_simp) ?_
              refine (HAT.out W2 hG).mono ?_
              rintro e W' ⟨A', c', he, hL, hb⟩
              exact ⟨_, he, hb, A', c', rfl, hL.grow hb⟩
            | 3, _ =>
              clear hd
              exact hop_value rfl rfl rfl (v := .pointer (some ⟨w.heap.size, 0, none⟩)) (W' := W2) (by go_simp) (Grows.refl _) rfl
            | 4, _ =>
              have h3 : us 3 = .pointer (some ⟨w.heap.size, 0, none⟩) := hd 3 (by omega) (by kernel_rfl)
              clear hd
              have q0 := (hG.cell (b := w.heap.size) (o := 0) HLH.out).trans H0.out
              have q0l := Nat.lt_of_lt_of_le HLH.out hG.size
              exact hop_value rfl rfl rfl (v := .int .i64 (k : Int)) (W' := W2) (by go_simp) (Grows.refl _) rfl
            | 5, _ =>
              clear hd
              exact hop_value rfl rfl rfl (v := .int .i64 (j : Int)) (W' := W2) (by go_simp) (Grows.refl _) rfl
            | 6, _ =>
              have h4 : us 4 = .int .i64 (k : Int) := hd 4 (by omega) (by kernel_rfl)
              have h5 : us 5 = .int .i64 (j : Int) := hd 5 (by omega) (by kernel_rfl)
              clear hd
              refine hop_call rfl rfl rfl (f := 61) (args := #[.int .i64 (k : Int), .int .i64 (j : Int)]) (by go_simp) ?_
              refine (HM.out W2).mono ?_
              rintro e W' ⟨rfl, rfl⟩
              exact ⟨_, rfl, Grows.refl _, rfl⟩
            | 7, _ =>
              clear hd
              exact hop_value rfl rfl rfl (v := .slice A2 n2 c2) (W' := W2) (by go_simp) (Grows.refl _) rfl
            | 8, _ =>
              clear hd
              exact hop_value rfl rfl rfl (v := .int .u64 (many : Int)) (W' := W2) (by go_simp) (Grows.refl _) rfl
            | 9, _ =>
              clear hd
              exact hop_value rfl rfl rfl (v := .int .u64 (t : Int)) (W' := W2) (by go_simp) (Grows.refl _) rfl
            | 10, _ =>
              have h2 : ∃ A' c', us 2 = .slice A' m c' ∧ Lies spL W2 W2.heap.size (.slice A' m c') l := hd 2 (by omega) (by kernel_rfl)
              have h6 : us 6 = .int .i64 M := hd 6 (by omega) (by kernel_rfl)
              have h7 : us 7 = .slice A2 n2 c2 := hd 7 (by omega) (by kernel_rfl)
              have h8 : us 8 = .int .u64 (many : Int) := hd 8 (by omega) (by kernel_rfl)
              have h9 : us 9 = .int .u64 (t : Int) := hd 9 (by omega) (by kernel_rfl)
              clear hd
              obtain ⟨A', c', h2a, h2b⟩ := h2
              refine hop_call rfl rfl rfl (f := 64) (args := #[.slice A' m c', .int .i64 M, .slice A2 n2 c2, .int .u64 (many : Int), .int .u64 (t : Int)]) (by go_simp) ?_
              refine (HPU.out W2 hG A' c' h2b).mono ?_
              rintro e W' ⟨A3, c3, A4, c4, he, l1, l2, hb, hnew⟩
              exact ⟨_, he, hb, A3, c3, A4, c4, rfl, l1, l2, fun b hbb => ⟨Nat.le_trans hG.size (hnew b hbb).1, (hnew b hbb).2⟩⟩
            | d + 11, h => exact absurd h (by omega)
          case htailA =>
            intro us W2 hG hf
            obtain ⟨A3, c3, A4, c4, h11, h12, h13, h14⟩ : ∃ (A3 : Option Addr) (c3 : Nat) (A4 : Option Addr) (c4 : Nat), us 10 = .tuple #[.slice A3 ns c3, .slice A4 nw c4, .int .u64 (lf : Int)] ∧ Lies spL W2 W2.heap.size (.slice A3 ns c3) st ∧ Lies spL W2 W2.heap.size (.slice A4 nw c4) we ∧ ∀ b, (Value.slice A3 ns c3).ownBlock = some b ∨ (Value.slice A4 nw c4).ownBlock = some b → wr.heap.size ≤ b ∧ Ty W2 73 b := hf 10 (by omega)
            clear hf
            rw [h11]
            have HG2 := Lib.hid hG
            have H12 := Lib.hid h12
            have H13 := Lib.hid h13
            have H14 := Lib.hid h14
            clear h11 h12 h13 h14 hG
            simp only [List.drop_succ_cons, List.drop_zero]
            repeat (go_big_quiet_step (fail))
            refine wpQuiet_nil ?_
            rintro w' ⟨nq, rfl⟩
            have hbw : Below wr.heap.size wr (W2.drewN nq) := below_drewN HG2.out _
            have s3 : ∀ b, (Value.slice A3 ns c3).ownBlock = some b ∨ (Value.slice A4 nw c4).ownBlock = some b → wr.heap.size ≤ b ∧ Ty (W2.drewN nq) 73 b := H14.out
            have s1 : Lies spL (W2.drewN nq) (W2.drewN nq).heap.size (.slice A3 ns c3) st := H12.out
            have s2 : Lies spL (W2.drewN nq) (W2.drewN nq).heap.size (.slice A4 nw c4) we := H13.out
            have HBW := Lib.hid hbw
            have S1 := Lib.hid s1
            have S2 := Lib.hid s2
            clear H14
            have H14 := Lib.hid s3
            clear hbw s1 s2 s3 HG2 H12 H13
            generalize W2.drewN nq = wy at *
            have hox := (HBW.out.block bO HLO.out).trans HOX.out
            obtain ⟨e0, e1, e2⟩ := box3 hox
            have le := lt_of hox
            have hoy := HOW.out.grow HBW.out
            have HOY := Lib.hid hoy
            have HOX2 := Lib.hid hox
            have hbase : bO + 1 ≤ wy.heap.size := by omega
            have hvne : ∀ b, wr.heap.size ≤ b → v.ownBlock ≠ some b := fun b hb e => by have := (HOW.out.lt b e).2; omega
            have HVNE := Lib.hid hvne
            clear hox hoy hvne
            go_wp2_with (at_builtin; refine wpList_lev _ 24 info_row Try.underlying22 rfl (by decide) wy rfl _ _ rfl (bO + 1) v (.slice A3 ns c3) (R.take j) st rfl HOY.out wy.heap.size rfl rfl S1.out (fun _ b hb => ⟨(by have := (H14.out b (.inl hb)).1; have := HLO.out; omega), HVNE.out b (H14.out b (.inl hb)).1, (H14.out b (.inl hb)).2⟩) (by have := HRJ.out; rw [List.length_take]; omega) hbase ?_; intro v' w3 ho3 hq3 hg3; rw [HTK.out] at ho3; obtain ⟨g2, cap2, hv2, hg21, hg22, hcap2⟩ := ho3.addr (by rw [List.length_take]; have := HRJ.out; omega); rw [show (R.take (j + 1)).length = j + 1 from by rw [List.length_take]; have := HRJ.out; omega] at hv2 hcap2; subst hv2; have hox3 := (hg3.block bO (by simp; omega) (fun e => HVO.out e.symm)).trans ((Below.heap_alloc _ _ _ le).trans HOX2.out); obtain ⟨i0, i1, i2⟩ := box3 hox3; have f2 : w3.frozen? ⟨bO, 2, none⟩ = false := (by simp [World.frozen?, hox3]); have l3 := lt_of hox3; have hne : g2 ≠ bO := (by omega); have HO3 := Lib.hid ho3; have HQ3 := Lib.hid hq3; have HG3 := Lib.hid hg3; have HOX3 := Lib.hid hox3; clear ho3 hq3 hg3 hox3)
            have hl4 := ((S2.out.grow ((Below.refl _ wy).alloc (Nat.le_refl _) _)).off2 HG3.out fun _ b hb e => HVNE.out b (H14.out b (.inr hb)).1 e.symm)
            have hbO4 : ∀ b, (Value.slice A4 nw c4).ownBlock = some b → b ≠ bO := fun b hb => by have := (H14.out b (.inr hb)).1; have := HLO.out; omega
            have hl5 := hl4.off2 (grown_set w3 bO 2 (.slice (some ⟨g2, 0, none⟩) (j + 1) cap2)) fun _ b hb e => by injection e with e; exact hbO4 b hb e
            refine ⟨⟨j + 1, we, lf, A4, nw, c4, .slice (some ⟨g2, 0, none⟩) (j + 1) cap2, rfl, rfl, by go_num, HNW.out, HRJ.out, HAN.out, hl5, ?_, ?_, HO3.out.off (grown_set w3 bO 2 _) (fun e => by injection e with e; exact hne e) (fun b hb => Nat.ne_of_gt hb), ?_⟩, by simp [intOf]; have := HRJ.out; omega⟩
            · intro hn b hb
              refine ⟨hbO4 b hb, fun e => ?_⟩
              have hbl : b < wy.heap.size := by
                obtain ⟨A', cap', hv', _, _, h6⟩ := S2.out
                rcases h6 with h6 | ⟨b', off, hb', h7, _⟩
                · exact absurd h6 hn
                · injection hv' with hv' _ _
                  rw [hv', h7] at hb
                  injection hb with hb
                  exact hb ▸ hb'
              rcases HQ3.out with e' | e'
              · rw [e'] at e
                exact HVNE.out b (H14.out b (.inr hb)).1 e
              · rw [e'] at e
                injection e with e
                omega
            · have := set1 (o := 2) (.slice (some ⟨g2, 0, none⟩) (j + 1) cap2) HOX3.out
              exact this
            · exact (((HBEL.out.trans (HBW.out.mono (by have := HLO.out; omega))).alloc (by omega) _).grown HG3.out (by simp; omega) (fun x e => by have := (HOW.out.lt x e).1; omega)).setCell (p := ⟨bO, 2, none⟩) (Nat.le_refl _) _
      · have e1 : n2 = 0 := by omega
        have e2 : many = 0 := by omega
        have e3 : ¬ (j < N) := by omega
        have hd := HDN.out (by rw [HN.out]; omega) (full_nil.2 ⟨HN2.out.trans e1, e2⟩)
        have eR : R.take j = R := List.take_of_length_le hd
        have how := HOW.out
        rw [eR] at how
        obtain ⟨Av, cv, rfl, -, -⟩ := how.form
        have hbl := HBEL.out
        have hbr := (hbl.block (w.heap.size + 1) hlO).trans HBR.out
        obtain ⟨y0, y1, y2⟩ := box3 hbr
        have f1 : ∀ i, wr.frozen? ⟨w.heap.size + 1, i, none⟩ = false := fun i => by simp [World.frozen?, hbr]
        have hlr := lt_of hbr
        obtain ⟨z0, z1, z2⟩ := box3 hox
        obtain ⟨NR, hNR⟩ : ∃ NR, R.length = NR := ⟨_, rfl⟩
        rw [hNR] at how z2
        have o3 := how.off (grown3 (b := w.heap.size + 1) (.int .i64 k) (.int .i64 g) (.slice Av NR cv)) (fun e => by have := (how.lt _ e).1; omega) (fun b hb => by have hb : bO < b := hb; omega)
        have hres3 := set3 hbr (.int .i64 k) (.int .i64 g) (.slice Av NR cv)
        have hb3 := below3 (HBW2.out.trans (hbl.mono (by omega))) (b := w.heap.size + 1) (by omega) (.int .i64 k) (.int .i64 g) (.slice Av NR cv)
        obtain ⟨t0, t1, t2⟩ := box3 hres3
        have hnO : bO ≠ w.heap.size + 1 := by omega
        have O3 := Lib.hid o3.levs
        have HB3 := Lib.hid hb3
        have T0 := Lib.hid t0
        have T1 := Lib.hid t1
        have T2 := Lib.hid t2
        subst e1 e2
        clear hgo HNX HDN HN2 hd eR how hbl hbr hNR o3 hres3 hb3 t0 t1 t2 HAT HM HPU HOW HOX hox HVO
        go_wp2
        refine bodyPost_ret (v := .tuple #[hv k g (.slice Av NR cv), .int .i64 0]) (by simp [results, Try.results46, go_sem, T0.out, T1.out, T2.out]) rfl ⟨_, rfl, O3.out, HB3.out⟩

end Go.Proofs.Ytmdknedngiggdaa
end
section
/- The contract of skylightref06.Add, where it refuses. -/
namespace Go.Proofs.Ytmdknedngiggdaa
open Go.RowKit Go.Shelf Go.Proofs.Rw Go.Proofs.Lh

theorem last_none {ls : Lv} (h : (lastOf ls).isSome = false) : (lastOf ls).getD 0 = 0 := by
  cases hl : lastOf ls with
  | none => rfl
  | some x => rw [hl] at h; cases h

set_option maxRecDepth 100000 in
set_option maxHeartbeats 4000000 in
theorem radd_bad (k : Nat) (g : Int) (ls : Lv) (hmd : Made k ls) (t n0 : Nat) (hn : n0 < 18446744073709551616) (hc : code ls t n0 ≠ 0) (w : World) (A : Option Addr) (c : Nat) (h : Levs w w.heap.size (.slice A ls.length c) ls) :
    Calls Try.prog 46 #[hv k g (.slice A ls.length c), .int .u64 t, .int .u64 n0] w fun e w' => e = hret (hv 0 0 (.slice none 0 0)) (code ls t n0 : Int) ∧ Below w.heap.size w w' := by
  obtain ⟨N, hN⟩ : ∃ N, ls.length = N := ⟨_, rfl⟩
  obtain ⟨W0, hW0, hsz, p0, p1, hB0⟩ := heap_two w (.cells #[.int .i64 k, .int .i64 g, .slice A N c] 27) (.cells #[.int .i64 0, .int .i64 0, .slice none 0 0] 27)
  have hla := rlast_any k g ls W0 A c (h.grow hB0) (by have := hmd.lev 0; omega)
  have hto := fun (W : World) (hW : Below w.heap.size w W) => rtotal_any k g ls (by have := hmd.len; omega) (by have := hmd.small; omega) W A c (h.grow hW)
  have hsm := hmd.small
  obtain ⟨L, hL⟩ : ∃ L, (lastOf ls).getD 0 = L := ⟨_, rfl⟩
  obtain ⟨lb, hlb⟩ : ∃ b, (lastOf ls).isSome = b := ⟨_, rfl⟩
  obtain ⟨T, hT⟩ : ∃ T, tot ls = T := ⟨_, rfl⟩
  have hlz : lb = false → L = 0 := fun e => by rw [← hL]; exact last_none (hlb.trans e)
  unfold lastV at hla
  rw [hL, hlb, hN] at hla
  rw [hT, hN] at hto
  rw [hT] at hsm
  unfold code at hc ⊢
  rw [hL, hT] at hc ⊢
  obtain ⟨C, hC⟩ : ∃ C, (if n0 = 0 then 1 else if 9223372036854775807 < t ∨ t < L then 6 else if 4503599627370496 < n0 ∨ 4503599627370496 < n0 + T then 5 else 0) = C := ⟨_, rfl⟩
  rw [hC] at hc ⊢
  rw [hN]
  have HC := Lib.hid hC
  have HLA := Lib.hid hla
  have HTO := Lib.hid hto
  have HW0 := Lib.hid hW0
  have HSZ := Lib.hid hsz
  have P0 := Lib.hid p0
  have P1 := Lib.hid p1
  have HB0 := Lib.hid hB0
  have HLZ := Lib.hid hlz
  clear hla hto h hmd hL hlb hT hN hW0 hsz p0 p1 hB0 hC hlz
  by_cases c0 : n0 = 0
  · have e : C = 1 := by rw [← HC.out, if_pos c0]
    subst e c0
    obtain ⟨q0, q1, q2⟩ := box3 P1.out
    have f1 : ∀ i, W0.frozen? ⟨w.heap.size + 1, i, none⟩ = false := fun i => by simp [World.frozen?, P1.out]
    have hl1 := lt_of P1.out
    obtain ⟨t0, t1, t2⟩ := box3 (set3 P1.out (.int .i64 0) (.int .i64 0) (.slice none 0 0))
    have T0 := Lib.hid t0
    have T1 := Lib.hid t1
    have T2 := Lib.hid t2
    have F1 := Lib.hid f1
    clear t0 t1 t2 f1 HLZ hsm
    go_enter Try.func46, Try.ntmps46
    go_upto_region 2 with (fail)
    rw [← HW0.out]
    have f1 := F1.out
    go_wp2
    refine bodyPost_ret (v := .tuple #[hv 0 0 (.slice none 0 0), .int .i64 1]) (by simp [results, Try.results46, go_sem, T0.out, T1.out, T2.out]) rfl ⟨rfl, below3 HB0.out (by omega) _ _ _⟩
  have d0 : ((n0 : Int) == 0) = false := by rw [beq_eq_false_iff_ne]; omega
  go_enter Try.func46, Try.ntmps46
  go_upto_region 3 with (fail)
  rw [← HW0.out]
  clear HW0
  have z0 := HSZ.out
  obtain ⟨q0, q1, q2⟩ := box3 P0.out
  have l0 : w.heap.size < W0.heap.size := by omega
  go_upto_region 4 with (go_at_call 63; refine HLA.out.mono ?_; rintro e w1 ⟨rfl, hb1⟩; have HB1 := Lib.hid hb1; clear hb1)
  have m1 : W0.heap.size ≤ w1.heap.size := HB1.out.size
  have r0 := (HB1.out.block w.heap.size (by omega)).trans P0.out
  have r1 := (HB1.out.block (w.heap.size + 1) (by omega)).trans P1.out
  obtain ⟨s0, s1, s2⟩ := box3 r0
  obtain ⟨y0, y1, y2⟩ := box3 r1
  have l1 : w.heap.size < w1.heap.size := by omega
  have l2 := lt_of r1
  have f1 : ∀ i, w1.frozen? ⟨w.heap.size + 1, i, none⟩ = false := fun i => by simp [World.frozen?, r1]
  obtain ⟨t0, t1, t2⟩ := box3 (set3 r1 (.int .i64 0) (.int .i64 0) (.slice none 0 0))
  have T0 := Lib.hid t0
  have T1 := Lib.hid t1
  have T2 := Lib.hid t2
  have R1 := Lib.hid r1
  have HBW := Lib.hid (thn HB0.out HB1.out)
  clear q0 q1 q2 r0 z0 HLA r1 t0 t1 t2
  by_cases c1 : 9223372036854775807 < t
  · have e : C = 6 := by rw [← HC.out, if_neg c0, if_pos (.inl c1)]
    subst e
    have d1 : decide ((9223372036854775807 : Int) < t) = true := by simp; omega
    clear c0 c1 hsm HLZ
    go_wp2
    refine bodyPost_ret (v := .tuple #[hv 0 0 (.slice none 0 0), .int .i64 6]) (by simp [results, Try.results46, go_sem, T0.out, T1.out, T2.out]) rfl ⟨rfl, below3 HBW.out (by omega) _ _ _⟩
  have d1 : decide ((9223372036854775807 : Int) < t) = false := by simp; omega
  by_cases c2 : t < L
  · have e : C = 6 := by rw [← HC.out, if_neg c0, if_pos (.inr c2)]
    subst e
    have elb : lb = true := by
      cases lb with
      | true => rfl
      | false => have := HLZ.out rfl; omega
    subst elb
    have d2 : decide (t < L) = true := by simpa using c2
    clear c0 c1 hsm HLZ
    go_wp2
    refine bodyPost_ret (v := .tuple #[hv 0 0 (.slice none 0 0), .int .i64 6]) (by simp [results, Try.results46, go_sem, T0.out, T1.out, T2.out]) rfl ⟨rfl, below3 HBW.out (by omega) _ _ _⟩
  have d2 : decide (t < L) = false := by simpa using c2
  have e : C = 5 := by
    have := HC.out
    rw [if_neg c0, if_neg (by omega)] at this
    split at this <;> omega
  have hor : 4503599627370496 < n0 ∨ 4503599627370496 < n0 + T := by
    have := HC.out
    rw [if_neg c0, if_neg (by omega)] at this
    split at this
    · assumption
    · omega
  subst e
  go_cut [34] from 25 to 34 (fun s34 wx => s34 = .bool false ∧ w1 = wx)
  case first =>
    clear hor HC
    cases lb
    · go_wp2
      go_meet
      case rel => exact ⟨rfl, rfl⟩
    · go_wp2
      go_meet
      case rel => exact ⟨by first | rfl | exact congrArg Value.bool d2, rfl⟩
  case rest =>
    obtain ⟨rfl, rfl⟩ := hcut
    by_cases c3 : 4503599627370496 < n0
    · have d3 : decide ((4503599627370496 : Int) < n0) = true := by simp; omega
      clear hor HC d2 c0 c1 c2 hsm HLZ
      go_wp2
      refine bodyPost_ret (v := .tuple #[hv 0 0 (.slice none 0 0), .int .i64 5]) (by simp [results, Try.results46, go_sem, T0.out, T1.out, T2.out]) rfl ⟨rfl, below3 HBW.out (by omega) _ _ _⟩
    · have d3 : decide ((4503599627370496 : Int) < n0) = false := by simp; omega
      have d4 : decide ((4503599627370496 : Int) < (n0 : Int) + T) = true := by simp; omega
      have b4 : (n0 : Int) + T ≤ 18446744073709551615 := by omega
      clear hor HC d2 c0 c1 c2 hsm HLZ
      go_upto_region 7 with (go_at_call 45; refine (HTO.out _ HBW.out).mono ?_; rintro e w2 ⟨rfl, hb2⟩; have HB2 := Lib.hid hb2; clear hb2)
      have r1 := (HB2.out.block (w.heap.size + 1) l2).trans R1.out
      obtain ⟨x0, x1, x2⟩ := box3 r1
      have l3 := lt_of r1
      have f2 : ∀ i, w2.frozen? ⟨w.heap.size + 1, i, none⟩ = false := fun i => by simp [World.frozen?, r1]
      obtain ⟨t0, t1, t2⟩ := box3 (set3 r1 (.int .i64 0) (.int .i64 0) (.slice none 0 0))
      have V0 := Lib.hid t0
      have V1 := Lib.hid t1
      have V2 := Lib.hid t2
      clear t0 t1 t2 r1 y0 y1 y2 f1
      go_wp2
      refine bodyPost_ret (v := .tuple #[hv 0 0 (.slice none 0 0), .int .i64 5]) (by simp [results, Try.results46, go_sem, V0.out, V1.out, V2.out]) rfl ⟨rfl, below3 (thn HBW.out HB2.out) (by omega) _ _ _⟩

end Go.Proofs.Ytmdknedngiggdaa
end
section
/- What stage 6's laws call by themselves: same, made, awake; and what weight that comes makes of a histogram. -/
namespace Go.Proofs.Lh
open Go.Proofs.Lm (Sp)

/-- One deed: so many ticks later so much weight; what is refused is passed over. -/
def stepP (k : Nat) (s : Nat × Lv) (d : Sp) : Nat × Lv := if code s.2 (s.1 + d.1 % 1000) d.2 = 0 then (s.1 + d.1 % 1000, addW k s.2 (s.1 + d.1 % 1000) d.2) else (s.1 + d.1 % 1000, s.2)
def play (k : Nat) (ds : List Sp) (j : Nat) : Nat × Lv := (ds.take j).foldl (stepP k) (0, [])
theorem play_zero (k : Nat) (ds : List Sp) : play k ds 0 = (0, []) := by simp [play]
theorem play_succ (k : Nat) (ds : List Sp) (j : Nat) (h : j < ds.length) : play k ds (j + 1) = stepP k (play k ds j) ds[j] := by
  unfold play
  rw [List.take_succ_eq_append_getElem h, List.foldl_append]
  rfl
theorem step_tick (k : Nat) (s : Nat × Lv) (d : Sp) : (stepP k s d).1 = s.1 + d.1 % 1000 := by unfold stepP; split <;> rfl
theorem step_levs (k : Nat) (s : Nat × Lv) (d : Sp) : (stepP k s d).2 = if code s.2 (s.1 + d.1 % 1000) d.2 = 0 then addW k s.2 (s.1 + d.1 % 1000) d.2 else s.2 := by unfold stepP; split <;> rfl
theorem step_made {k : Nat} {s : Nat × Lv} (h : Made k s.2) (d : Sp) : Made k (stepP k s d).2 := by
  rw [step_levs]
  split
  · exact h.add (by assumption)
  · exact h
theorem play_made {k : Nat} (h2 : 2 ≤ k) (h1 : k ≤ 1024) (ds : List Sp) : ∀ j, j ≤ ds.length → Made k (play k ds j).2
  | 0, _ => by rw [play_zero]; exact Made.nil h2 h1
  | j + 1, h => by rw [play_succ k ds j (by omega)]; exact step_made (play_made h2 h1 ds j (by omega)) _
theorem play_tick (k : Nat) (ds : List Sp) : ∀ j, j ≤ ds.length → (play k ds j).1 ≤ 1000 * j
  | 0, _ => by rw [play_zero]; simp
  | j + 1, h => by
    rw [play_succ k ds j (by omega), step_tick]
    have := play_tick k ds j (by omega)
    omega
/-- No unit is later than the tick. -/
theorem play_last (k : Nat) (hk : 2 ≤ k) (hk1 : k ≤ 1024) (ds : List Sp) : ∀ j, j ≤ ds.length → ∀ last, lastOf (play k ds j).2 = some last → last ≤ (play k ds j).1
  | 0, _ => by rw [play_zero]; intro last h; cases h
  | j + 1, h => by
    have ih := play_last k hk hk1 ds j (by omega)
    have hm := play_made hk hk1 ds j (by omega)
    rw [play_succ k ds j (by omega), step_tick, step_levs]
    intro last hl
    split at hl
    · rename_i hc
      have hn : 1 ≤ (ds[j]'(by omega)).2 := by
        rcases Nat.eq_zero_or_pos (ds[j]'(by omega)).2 with e | e
        · unfold code at hc; rw [if_pos e] at hc; omega
        · exact e
      rw [addW_last k (by omega) _ _ _ hm.ok.shape hn] at hl
      injection hl with hl
      omega
    · have := ih last hl
      omega

/-- What Add tells: its histogram. -/
def outL (k : Nat) (ls : Lv) (t n : Nat) : Lv := if code ls t n = 0 then addW k ls t n else []
def outK (k : Nat) (ls : Lv) (t n : Nat) : Int := if code ls t n = 0 then (k : Int) else 0

theorem four : addW 2 [] 5 4 = [[(5, 5), (5, 5)], [(5, 5)]] := by
  unfold addW addL
  rw [newL_ne _ _ (by simp), newL_ne _ _ (by decide)]
  rw [show wentL (wentL (List.replicate 4 (5, 5)) (rm 2 0)) (rm 2 (0 + 1)) = [] by decide, newL_nil]
  decide
end Go.Proofs.Lh
namespace Go.Proofs.Ytmdknedngiggdaa
open Go.RowKit Go.Shelf Go.Proofs.Rw Go.Proofs.Lh

theorem radd_any (k : Nat) (ls : Lv) (hmd : Made k ls) (t n0 : Nat) (hn : n0 < 18446744073709551616) (w : World) (A : Option Addr) (c : Nat) (h : Levs w w.heap.size (.slice A ls.length c) ls) :
    Calls Try.prog 46 #[hv k 0 (.slice A ls.length c), .int .u64 t, .int .u64 n0] w fun e w' => ∃ A' c', e = hret (hv (outK k ls t n0) 0 (.slice A' (outL k ls t n0).length c')) (code ls t n0 : Int) ∧ Levs w' w'.heap.size (.slice A' (outL k ls t n0).length c') (outL k ls t n0) ∧ Below w.heap.size w w' := by
  unfold outL outK
  by_cases hc : code ls t n0 = 0
  · simp only [if_pos hc]
    refine (radd_ok k 0 ls hmd t n0 hc w A c h).mono ?_
    rintro e w' ⟨v, he, hL, hb⟩
    obtain ⟨A', c', rfl, -, -, hL'⟩ := hL.form
    exact ⟨A', c', by rw [he, hc]; rfl, hL', hb⟩
  · simp only [if_neg hc]
    refine (radd_bad k 0 ls hmd t n0 hn hc w A c h).mono ?_
    rintro e w' ⟨he, hb⟩
    exact ⟨none, 0, he, Levs.nil, hb⟩

set_option maxHeartbeats 1000000 in
theorem lsame_any (ka ga kb gb : Int) (la lb : Lv) (hN : la.length ≤ 1000000) (hl : ∀ i, (lev la i).length ≤ 10000000) (w : World) (A A2 : Option Addr) (c c2 : Nat) (h : Levs w w.heap.size (.slice A la.length c) la) (h2 : Levs w w.heap.size (.slice A2 lb.length c2) lb) :
    Calls Try.prog 18 #[hv ka ga (.slice A la.length c), hv kb gb (.slice A2 lb.length c2)] w fun e w' => e = .returned (.bool (sameB ka ga kb gb la lb)) ∧ Below w.heap.size w w' := by
  have hb0 : Below w.heap.size w ((w.alloc (.cells #[.int .i64 ka, .int .i64 ga, .slice A la.length c] 30)).alloc (.cells #[.int .i64 kb, .int .i64 gb, .slice A2 lb.length c2] 27)) := ((Below.refl _ w).alloc (Nat.le_refl _) _).alloc (by simp) _
  have hs := rsame_any ka ga kb gb la lb hN hl _ A A2 c c2 (h.grow hb0) (h2.grow hb0)
  have HB0 := Lib.hid hb0
  have HS := Lib.hid hs
  clear hs hb0 h h2
  go_enter Try.func18, Try.ntmps18
  go_wp2_with (go_at_call 40; refine HS.out.mono ?_; rintro e w1 ⟨rfl, hb1⟩)
  go_ret
  exact ⟨rfl, thn HB0.out hb1⟩

theorem lmade_any (k g : Int) (A : Option Addr) (n c : Nat) (w : World) :
    Calls Try.prog 11 #[hv k g (.slice A n c)] w fun e w' => e = .returned (hv k g (.slice A n c)) ∧ Below w.heap.size w w' := by
  go_enter Try.func11, Try.ntmps11
  go_wp2
  refine bodyPost_ret (v := hv k g (.slice A n c)) (by simp [results, Try.results11, go_sem]) rfl ⟨rfl, ?_⟩
  exact ((Below.refl _ w).alloc (Nat.le_refl _) _).alloc (by simp) _

end Go.Proofs.Ytmdknedngiggdaa
end
