/- The contract of skylightref06.Same. -/
import Derived.Test.YtafcgfhkeceiaaaHRef6
import Derived.Test.YtafcgfhkeceiaaaFacts
import Derived.Test.YtafcgfhkeceiaaaHRefuse
namespace Go.Proofs.Ytafcgfhkeceiaaa
open Go.RowKit Go.Shelf Go.Proofs.Rw Go.Proofs.Lh Go.Proofs.Rf

theorem heap_two (w : World) (o0 o1 : Obj) : ∃ W, W = (w.alloc o0).alloc o1 ∧ W.heap.size = w.heap.size + 2 ∧ W.heap[w.heap.size]? = some o0 ∧ W.heap[w.heap.size + 1]? = some o1 ∧ Below w.heap.size w W := by
  refine ⟨_, rfl, by simp, ?_, ?_, ((Below.refl _ w).alloc (Nat.le_refl _) _).alloc (by simp) _⟩
  · rw [Below.heap_alloc _ _ _ (by simp)]
    exact World.alloc_heap_new w _
  · have := World.alloc_heap_new (w.alloc o0) o1
    simpa using this

set_option maxRecDepth 100000 in
set_option maxHeartbeats 2000000 in
theorem rsame_eq (ka ga : Int) (la lb : Lv) (N : Nat) (hN : N ≤ 1000000) (hla : la.length = N) (hlb : lb.length = N) (hl : ∀ i, (lev la i).length ≤ 10000000) (w : World) (A A2 : Option Addr) (c c2 : Nat) (h : Levs w w.heap.size (.slice A N c) la) (h2 : Levs w w.heap.size (.slice A2 N c2) lb) :
    Calls Try.prog 24 #[hv ka ga (.slice A N c), hv ka ga (.slice A2 N c2)] w fun e w' => e = .returned (.bool (decide (la = lb))) ∧ Below w.heap.size w w' := by
  obtain ⟨W0, hW0, hsz, p0, p1, hB0⟩ := heap_two w (.cells #[.int .i64 ka, .int .i64 ga, .slice A N c] 28) (.cells #[.int .i64 ka, .int .i64 ga, .slice A2 N c2] 28)
  have HW0 := Lib.hid hW0
  have HLA := Lib.hid h
  have HLB := Lib.hid h2
  have HNA := Lib.hid hla
  have HNB := Lib.hid hlb
  have HLL := Lib.hid hl
  have HB0 := Lib.hid hB0
  have HSZ := Lib.hid hsz
  have P0 := Lib.hid p0
  have P1 := Lib.hid p1
  clear h h2 hla hlb hl hW0 hB0 hsz p0 p1
  go_enter Try.func24, Try.ntmps24
  go_wp2
  rw [← HW0.out]
  clear HW0
  go_loopw [5] (fun i wr => ∃ j : Nat, i = .int .i64 (j : Int) ∧ j ≤ N ∧ (∀ i, i < j → lev la i = lev lb i) ∧ Below W0.heap.size W0 wr) (fun i _ => N - (intOf i).toNat)
  case atStart => exact ⟨0, rfl, Nat.zero_le _, fun i hi => absurd hi (by omega), Below.refl _ _⟩
  case round =>
    obtain ⟨j, rfl, hj, hall, hbel⟩ := hrel
    have hz := HSZ.out
    have r0 := (hbel.block w.heap.size (by omega)).trans P0.out
    have r1 := (hbel.block (w.heap.size + 1) (by omega)).trans P1.out
    have x0 := (box3 r0).2.2
    have x1 := (box3 r1).2.2
    have l0 := lt_of r0
    have l1 := lt_of r1
    have HBEL := Lib.hid hbel
    have hbw : Below w.heap.size w wr := thn HB0.out hbel
    have hLa := HLA.out.grow hbw
    have hLb := HLB.out.grow hbw
    by_cases hlt : j < N
    · have ja : j < la.length := by rw [HNA.out]; exact hlt
      have jb : j < lb.length := by rw [HNB.out]; exact hlt
      obtain ⟨ba, oa, rfl, hba, -, hca⟩ := hLa.at (by omega)
      obtain ⟨bb, ob, rfl, hbb, -, hcb⟩ := hLb.at (by omega)
      obtain ⟨Ai, ci, y0, -, -, hLi⟩ := hca j ja
      obtain ⟨Bi, di, y1, -, -, hLj⟩ := hcb j jb
      rw [← lev_lt ja] at y0 hLi
      rw [← lev_lt jb] at y1 hLj
      have hll := HLL.out j
      obtain ⟨q, hq⟩ : ∃ q, decide (lev la j = lev lb j) = q := ⟨_, rfl⟩
      obtain ⟨ni, hni⟩ : ∃ n, (lev la j).length = n := ⟨_, rfl⟩
      obtain ⟨mi, hmi⟩ : ∃ n, (lev lb j).length = n := ⟨_, rfl⟩
      have heq : ∀ W2, Grows wr W2 → Calls Try.prog 16 #[.slice Ai ni ci, .slice Bi mi di] W2 fun e w' => e = .returned (.bool q) ∧ Below W2.heap.size W2 w' := by
        intro W2 hG
        have hg : Below wr.heap.size wr W2 := hG
        have := rEq_any (lev la j) (lev lb j) hll W2 W2.heap.size (Nat.le_refl _) Ai Bi ci di (hLi.grow hg) (hLj.grow hg)
        rw [hq, hni, hmi] at this
        exact this
      rw [hni] at y0
      rw [hmi] at y1
      have hall2 : lev la j = lev lb j → ∀ i, i < j + 1 → lev la i = lev lb i := fun he i hi => by
        rcases Nat.lt_or_ge i j with h | h
        · exact hall i h
        · have e : i = j := by omega
          rw [e]
          exact he
      have HEQ := Lib.hid heq
      have HQ := Lib.hid hq
      have HALL := Lib.hid hall2
      have H0 := Lib.hid x0
      have H1 := Lib.hid x1
      have H2 := Lib.hid y0
      have H3 := Lib.hid y1
      have HL0 := Lib.hid l0
      have HL1 := Lib.hid l1
      have HL2 := Lib.hid hba
      have HL3 := Lib.hid hbb
      have hjN : (j : Int) < (N : Int) := by omega
      clear heq hq hall hall2 y0 y1 hni hmi hLi hLj hca hcb hLa hLb hbel hbw hz r0 r1 hll ja jb HLA HLB
      go_upto_region 6 with (fail)
      refine region_facts0 (fr := ?frA) 11 [34, 35, 36, 37, 38, 39, 40, 41, 42, 43, 44] (fun i v W => match i with
          | 0 => v = .pointer (some ⟨w.heap.size, 2, none⟩)
          | 1 => v = .slice (some ⟨ba, oa, none⟩) N c
          | 2 => v = .int .i64 (j : Int)
          | 3 => v = .pointer (some ⟨ba, oa + j, none⟩)
          | 4 => v = .slice Ai ni ci
          | 5 => v = .pointer (some ⟨w.heap.size + 1, 2, none⟩)
          | 6 => v = .slice (some ⟨bb, ob, none⟩) N c2
          | 7 => v = .int .i64 (j : Int)
          | 8 => v = .pointer (some ⟨bb, ob + j, none⟩)
          | 9 => v = .slice Bi mi di
          | 10 => v = .bool q
          | _ => True) rfl ?hBA (by kernel_rfl) (by kernel_rfl) (by kernel_rfl) ?hfrA ?hFA ?hopA ?htailA
      case hBA => kernel_rfl
      case hfrA =>
        intro us
        simp only [putL]
        go_simp
        rfl
      case hFA =>
        intro i v W W' hG h
        match i with
        | 0 => exact h
        | 1 => exact h
        | 2 => exact h
        | 3 => exact h
        | 4 => exact h
        | 5 => exact h
        | 6 => exact h
        | 7 => exact h
        | 8 => exact h
        | 9 => exact h
        | 10 => exact h
        | n + 11 => trivial
      case hopA =>
        intro i hi us W2 hG hd
        match i, hi with
        | 0, _ =>
          clear hd
          exact hop_value rfl rfl rfl (v := .pointer (some ⟨w.heap.size, 2, none⟩)) (W' := W2) (by go_simp) (Grows.refl _) rfl
        | 1, _ =>
          have h0 : us 0 = .pointer (some ⟨w.heap.size, 2, none⟩) := hd 0 (by omega) (by kernel_rfl)
          clear hd
          have q0 := (hG.cell (b := w.heap.size) (o := 2) HL0.out).trans H0.out
          have q0l := Nat.lt_of_lt_of_le HL0.out hG.size
          exact hop_value rfl rfl rfl (v := .slice (some ⟨ba, oa, none⟩) N c) (W' := W2) (by go_simp) (Grows.refl _) rfl
        | 2, _ =>
          clear hd
          exact hop_value rfl rfl rfl (v := .int .i64 (j : Int)) (W' := W2) (by go_simp) (Grows.refl _) rfl
        | 3, _ =>
          have h1 : us 1 = .slice (some ⟨ba, oa, none⟩) N c := hd 1 (by omega) (by kernel_rfl)
          have h2 : us 2 = .int .i64 (j : Int) := hd 2 (by omega) (by kernel_rfl)
          clear hd
          exact hop_value rfl rfl rfl (v := .pointer (some ⟨ba, oa + j, none⟩)) (W' := W2) (by go_simp) (Grows.refl _) rfl
        | 4, _ =>
          have h3 : us 3 = .pointer (some ⟨ba, oa + j, none⟩) := hd 3 (by omega) (by kernel_rfl)
          clear hd
          have q0 := (hG.cell (b := ba) (o := oa + j) HL2.out).trans H2.out
          have q0l := Nat.lt_of_lt_of_le HL2.out hG.size
          exact hop_value rfl rfl rfl (v := .slice Ai ni ci) (W' := W2) (by go_simp) (Grows.refl _) rfl
        | 5, _ =>
          clear hd
          exact hop_value rfl rfl rfl (v := .pointer (some ⟨w.heap.size + 1, 2, none⟩)) (W' := W2) (by go_simp) (Grows.refl _) rfl
        | 6, _ =>
          have h5 : us 5 = .pointer (some ⟨w.heap.size + 1, 2, none⟩) := hd 5 (by omega) (by kernel_rfl)
          clear hd
          have q0 := (hG.cell (b := w.heap.size + 1) (o := 2) HL1.out).trans H1.out
          have q0l := Nat.lt_of_lt_of_le HL1.out hG.size
          exact hop_value rfl rfl rfl (v := .slice (some ⟨bb, ob, none⟩) N c2) (W' := W2) (by go_simp) (Grows.refl _) rfl
        | 7, _ =>
          clear hd
          exact hop_value rfl rfl rfl (v := .int .i64 (j : Int)) (W' := W2) (by go_simp) (Grows.refl _) rfl
        | 8, _ =>
          have h6 : us 6 = .slice (some ⟨bb, ob, none⟩) N c2 := hd 6 (by omega) (by kernel_rfl)
          have h7 : us 7 = .int .i64 (j : Int) := hd 7 (by omega) (by kernel_rfl)
          clear hd
          exact hop_value rfl rfl rfl (v := .pointer (some ⟨bb, ob + j, none⟩)) (W' := W2) (by go_simp) (Grows.refl _) rfl
        | 9, _ =>
          have h8 : us 8 = .pointer (some ⟨bb, ob + j, none⟩) := hd 8 (by omega) (by kernel_rfl)
          clear hd
          have q0 := (hG.cell (b := bb) (o := ob + j) HL3.out).trans H3.out
          have q0l := Nat.lt_of_lt_of_le HL3.out hG.size
          exact hop_value rfl rfl rfl (v := .slice Bi mi di) (W' := W2) (by go_simp) (Grows.refl _) rfl
        | 10, _ =>
          have h4 : us 4 = .slice Ai ni ci := hd 4 (by omega) (by kernel_rfl)
          have h9 : us 9 = .slice Bi mi di := hd 9 (by omega) (by kernel_rfl)
          clear hd
          refine hop_call rfl rfl rfl (f := 16) (args := #[.slice Ai ni ci, .slice Bi mi di]) (by go_simp) ?_
          refine (HEQ.out W2 hG).mono ?_
          rintro e W' ⟨rfl, hb⟩
          exact ⟨_, rfl, hb, rfl⟩
        | d + 11, h => exact absurd h (by omega)
      case htailA =>
        intro us W2 hG hf
        have h10 : us 10 = .bool q := hf 10 (by omega)
        clear hf
        rw [h10]
        have HG2 := Lib.hid hG
        clear h10 hG
        simp only [List.drop_succ_cons, List.drop_zero]
        cases q with
        | true =>
          repeat (go_big_quiet_step (fail))
          refine wpQuiet_nil ?_
          rintro w' ⟨nq, rfl⟩
          have HB2 := Lib.hid (thn HBEL.out (below_drewN HG2.out nq))
          clear HG2
          generalize W2.drewN nq = wy at *
          go_wp2
          refine ⟨⟨j + 1, by go_num, hlt, HALL.out (of_decide_eq_true HQ.out), HB2.out⟩, by simp [intOf]; omega⟩
        | false =>
          repeat (go_big_quiet_step (fail))
          refine wpQuiet_nil ?_
          rintro w' ⟨nq, rfl⟩
          have HB2 := Lib.hid (thn HBEL.out (below_drewN HG2.out nq))
          clear HG2
          generalize W2.drewN nq = wy at *
          go_wp2
          go_ret
          refine ⟨ret_b ?_, thn HB0.out HB2.out⟩
          symm
          rw [decide_eq_false_iff_not]
          intro e
          have := of_decide_eq_false HQ.out
          exact this (by rw [e])
    · have e : j = N := by omega
      subst e
      have hee : la = lb := by
        refine List.ext_getElem (by rw [HNA.out, HNB.out]) fun i h1 h2 => ?_
        have := hall i (by rw [← HNA.out]; exact h1)
        rw [lev_lt h1, lev_lt h2] at this
        exact this
      have HE := Lib.hid hee
      clear hall hee hLa hLb r0 r1 hz hbel hbw
      go_wp2
      go_ret
      exact ⟨ret_b (by simp [HE.out]), thn HB0.out HBEL.out⟩

set_option maxHeartbeats 1000000 in
theorem rsame_any (ka ga kb gb : Int) (la lb : Lv) (hN : la.length ≤ 1000000) (hl : ∀ i, (lev la i).length ≤ 10000000) (w : World) (A A2 : Option Addr) (c c2 : Nat) (h : Levs w w.heap.size (.slice A la.length c) la) (h2 : Levs w w.heap.size (.slice A2 lb.length c2) lb) :
    Calls Try.prog 24 #[hv ka ga (.slice A la.length c), hv kb gb (.slice A2 lb.length c2)] w fun e w' => e = .returned (.bool (sameB ka ga kb gb la lb)) ∧ Below w.heap.size w w' := by
  have hb0 : Below w.heap.size w ((w.alloc (.cells #[.int .i64 ka, .int .i64 ga, .slice A la.length c] 28)).alloc (.cells #[.int .i64 kb, .int .i64 gb, .slice A2 lb.length c2] 28)) := ((Below.refl _ w).alloc (Nat.le_refl _) _).alloc (by simp) _
  have HB0 := Lib.hid hb0
  clear hb0
  by_cases h1 : ka = kb
  · by_cases h3 : ga = gb
    · by_cases h4 : la.length = lb.length
      · subst h1 h3
        have hs : sameB ka ga ka ga la lb = decide (la = lb) := by simp [sameB]
        rw [hs]
        have := rsame_eq ka ga la lb la.length hN rfl h4.symm hl w A A2 c c2 h (by rw [h4]; exact h2)
        rw [h4] at this ⊢
        exact this
      · have hs : sameB ka ga kb gb la lb = false := by
          simp only [sameB, decide_eq_false_iff_not]
          rintro ⟨_, _, e⟩
          exact h4 (by rw [e])
        rw [hs]
        subst h1 h3
        have hz : ((la.length : Int) == (lb.length : Int)) = false := by rw [beq_eq_false_iff_ne]; omega
        clear hs h4 h h2
        go_enter Try.func24, Try.ntmps24
        go_wp2
        go_ret
        exact ⟨rfl, HB0.out⟩
    · have hs : sameB ka ga kb gb la lb = false := by simp [sameB, h3]
      rw [hs]
      subst h1
      have hz : (ga == gb) = false := by rw [beq_eq_false_iff_ne]; exact h3
      clear hs h3 h h2
      go_enter Try.func24, Try.ntmps24
      go_wp2
      go_ret
      exact ⟨rfl, HB0.out⟩
  · have hs : sameB ka ga kb gb la lb = false := by simp [sameB, h1]
    rw [hs]
    have hz : (ka != kb) = true := by simpa using h1
    clear hs h h2
    go_enter Try.func24, Try.ntmps24
    go_wp2
    go_ret
    exact ⟨rfl, HB0.out⟩

end Go.Proofs.Ytafcgfhkeceiaaa
