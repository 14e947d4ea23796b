/- The contract of replay.refusal. · The document's: weighed, bad. · replay.ticks, its function that is ranged over: each tick of sorted lots once, with all its weight. · The contracts of hist.New and of skylightref06.May. -/
import Derived.Test.YtmdknedngiggdaaJ12
import Derived.Test.YtmdknedngiggdaaJ05
import Derived.Test.YtmdknedngiggdaaJ13
import Derived.Test.YtmdknedngiggdaaJ04
section
/- The contract of replay.refusal. -/
namespace Go.Proofs.Lh
theorem any_all {α : Type} (l : List α) (p q : α → Bool) (h : ∀ x ∈ l, p x = !q x) : (l.any p = false) ↔ l.all q = true := by
  rw [List.any_eq_false, List.all_eq_true]
  constructor
  · intro k x hx
    have := k x hx
    rw [h x hx] at this
    simpa using this
  · intro k x hx
    rw [h x hx, k x hx]
    simp
theorem bool_any {α : Type} (l : List α) (p q : α → Bool) (h : ∀ x ∈ l, p x = !q x) : l.all q = !l.any p := by
  have := any_all l p q h
  cases e1 : l.any p <;> cases e2 : l.all q <;> simp_all
/-- What forbids a merge, as the program asks. -/
theorem bad_asks (evs : List Ev) (ms : List Hm) (q1 q2 q4 q5 : Bool) (h1 : (evs.any fun x => x.2.2 == 0) = q1) (h2 : (ms.any fun m => m.1 != kOne ms) = q2) (h4 : (evs.any fun x => decide (9223372036854775807 < x.1)) = q4) (h5 : decide (4503599627370496 < totM ms + totE evs) = q5) :
    badN evs ms = if ms.length = 0 ∨ q1 = true then 1 else if q2 = true then 9 else if 4 ≤ gmax ms then 10 else if q4 = true then 6 else if q5 = true then 5 else 0 := by
  have e1 : lightB evs = !q1 := by
    rw [← h1]
    exact bool_any evs _ _ fun x _ => by simp [bne]
  have e2 : alikeB ms = !q2 := by
    rw [← h2]
    exact bool_any ms _ _ fun x _ => by simp [bne]
  have e4 : earlyB evs = !q4 := by
    rw [← h4]
    exact bool_any evs _ _ fun x _ => by
      rw [Bool.eq_iff_iff]
      simp
  unfold badN
  rw [e1, e2, e4, ← h5]
  cases q1 <;> cases q2 <;> cases q4 <;> simp
end Go.Proofs.Lh
namespace Go.Proofs.Ytmdknedngiggdaa
open Go.RowKit Go.Shelf Go.Proofs.Rw Go.Proofs.Lh Go.Proofs.Rn

attribute [local go_sem] Oper.semAt_some

end Go.Proofs.Ytmdknedngiggdaa
end
section
/- The document's: weighed, bad. -/
namespace Go.Proofs.Lh
theorem all_take {α : Type} (p : α → Bool) {l : List α} {j : Nat} (h : j < l.length) : (l.take (j + 1)).all p = ((l.take j).all p && p l[j]) := by
  rw [List.take_succ_eq_append_getElem h, List.all_append]
  simp
theorem totE_take {evs : List Ev} {j : Nat} (h : j < evs.length) : totE (evs.take (j + 1)) = totE (evs.take j) + evs[j].2.2 := by
  unfold totE
  rw [List.take_succ_eq_append_getElem h, List.map_append, List.sum_append]
  simp
theorem totM_take {ms : List Hm} {j : Nat} (h : j < ms.length) : totM (ms.take (j + 1)) = totM (ms.take j) + tot ms[j].2.2 := by
  unfold totM
  rw [List.take_succ_eq_append_getElem h, List.map_append, List.sum_append]
  simp
theorem totM_le {ms : List Hm} {B : Nat} (h : ∀ m ∈ ms, tot m.2.2 ≤ B) : totM ms ≤ ms.length * B := by
  induction ms with
  | nil => simp [totM]
  | cons m ms ih =>
    have h1 := ih fun x hx => h x (List.mem_cons_of_mem _ hx)
    have h2 := h m List.mem_cons_self
    have e : totM (m :: ms) = tot m.2.2 + totM ms := by simp [totM]
    rw [e, List.length_cons, Nat.add_mul]
    omega
end Go.Proofs.Lh
namespace Go.Proofs.Ytmdknedngiggdaa
open Go.RowKit Go.Shelf Go.Proofs.Rw Go.Proofs.Lh

set_option maxHeartbeats 4000000 in
theorem weighed_any (evs : List Ev) (hle : evs.length ≤ 1000000) (hf : Fits3 evs) (w : World) (B : Nat) (hB : B ≤ w.heap.size) (A2 : Option Addr) (c2 : Nat) (h2 : Lies evL w B (.slice A2 evs.length c2) evs) :
    Calls Try.prog 92 #[.slice A2 evs.length c2] w fun e w' => e = .returned (.tuple #[.bool (lightB evs), .bool (earlyB evs), .int .u64 ((min (totE evs) 4503599627370497 : Nat) : Int)]) ∧ w = w' := by
  obtain ⟨N, hN⟩ : ∃ N, evs.length = N := ⟨_, rfl⟩
  have HE := Lib.hid h2
  have HF := Lib.hid hf
  rw [hN] at HE hle ⊢
  have HN := Lib.hid hN
  clear h2 hN hf
  go_enter Try.func92, Try.ntmps92
  go_wp2
  go_loop [5, 6, 7, 8] (fun a b s p => ∃ j : Nat, p = .int .i64 (j : Int) ∧ j ≤ N ∧ a = .bool (lightB (evs.take j)) ∧ b = .bool (earlyB (evs.take j)) ∧ s = .int .u64 ((min (totE (evs.take j)) 4503599627370497 : Nat) : Int)) (fun _ _ _ p => N - (intOf p).toNat)
  case atStart => exact ⟨0, rfl, Nat.zero_le _, by simp [lightB], by simp [earlyB], by simp [totE]⟩
  case round =>
    obtain ⟨j, rfl, hj, rfl, rfl, rfl⟩ := hrel
    by_cases hlt : j < N
    · have hjl : j < evs.length := by rw [HN.out]; exact hlt
      obtain ⟨b2, off2, rfl, hb2, -, hc2⟩ := ev_at HE.out (by omega)
      obtain ⟨e0, e1, e2⟩ := hc2 j hjl
      obtain ⟨z0, z1, z2⟩ := HF.out evs[j] (List.getElem_mem hjl)
      have s1 := all_take (fun e : Ev => e.2.2 != 0) hjl
      have s2 := all_take (fun e : Ev => decide (e.1 ≤ 9223372036854775807)) hjl
      have s3 := totE_take hjl
      obtain ⟨x, hx⟩ : ∃ x, evs[j] = x := ⟨_, rfl⟩
      rw [hx] at e0 e1 e2 z0 z1 z2 s1 s2 s3
      have hbb : b2 < w.heap.size := by omega
      obtain ⟨q1, hq1⟩ : ∃ q, lightB (evs.take j) = q := ⟨_, rfl⟩
      obtain ⟨q2, hq2⟩ : ∃ q, earlyB (evs.take j) = q := ⟨_, rfl⟩
      obtain ⟨S, hS⟩ : ∃ S, totE (evs.take j) = S := ⟨_, rfl⟩
      obtain ⟨M, hM⟩ : ∃ M, min S 4503599627370497 = M := ⟨_, rfl⟩
      have t1 : lightB (evs.take (j + 1)) = (q1 && (x.2.2 != 0)) := by rw [← hq1]; exact s1
      have t2 : earlyB (evs.take (j + 1)) = (q2 && decide (x.1 ≤ 9223372036854775807)) := by rw [← hq2]; exact s2
      rw [hS] at s3
      have hM0 : M ≤ 4503599627370497 := by omega
      obtain ⟨d, hd⟩ : ∃ d, min x.2.2 4503599627370497 = d := ⟨_, rfl⟩
      have t3 : min (totE (evs.take (j + 1))) 4503599627370497 = min (M + d) 4503599627370497 := by rw [s3]; omega
      rw [hq1, hq2, hS, hM]
      obtain ⟨b1, hb1⟩ : ∃ b, (x.2.2 != 0) = b := ⟨_, rfl⟩
      obtain ⟨b3, hb3⟩ : ∃ b, decide (x.1 ≤ 9223372036854775807) = b := ⟨_, rfl⟩
      rw [hb1] at t1
      rw [hb3] at t2
      have g1 : decide ((0 : Int) < (x.2.2 : Int)) = b1 := by
        rw [← hb1, Bool.eq_iff_iff]
        simp
        omega
      have g1' : decide (0 < x.2.2) = b1 := by
        rw [← hb1, Bool.eq_iff_iff]
        simp
        omega
      have g3 : decide ((x.1 : Int) ≤ 9223372036854775807) = b3 := by
        rw [← hb3, Bool.eq_iff_iff]
        simp
        omega
      have T1 := Lib.hid t1
      have T2 := Lib.hid t2
      have T3 := Lib.hid t3
      have hdl : d ≤ 4503599627370497 := by omega
      generalize x.1 = x0 at *
      generalize x.2.1 = x1 at *
      generalize x.2.2 = x2 at *
      have HD := Lib.hid hd
      clear hc2 s1 s2 s3 hq1 hq2 hS hM hx hb1 hb3 t1 t2 t3 hjl hd
      cases q1 <;> cases q2 <;> cases b1 <;> cases b3 <;>
      (go_wp2
       all_goals
         refine ⟨⟨j + 1, by go_num, hlt, by rw [T1.out]; rfl, by rw [T2.out]; rfl, ?_⟩, by simp [intOf]; omega⟩
         rw [T3.out]
         have := HD.out
         first | rfl | (congr 1; omega))
    · have e : j = N := by omega
      subst e
      rw [← HN.out, List.take_length]
      go_wp2
      refine bodyPost_ret (results_tmp3 rfl _ _ _) rfl ⟨rfl, rfl⟩

set_option maxRecDepth 100000 in
set_option maxHeartbeats 4000000 in
theorem rbad10_any (xs : List Hx) (evs : List Ev) (hl : xs.length ≤ 16) (hle : evs.length ≤ 1000) (hf : Fits3 evs) (hg : ∀ x ∈ xs, x.g ≤ 4) (hm : ∀ x ∈ xs, x.ls.length ≤ 60 ∧ tot x.ls ≤ 4503599627370496) (w : World) (A A2 : Option Addr) (c c2 : Nat)
    (h : Hs w w.heap.size (.slice A xs.length c) xs) (h2 : Lies evL w w.heap.size (.slice A2 evs.length c2) evs) :
    Calls Try.prog 79 #[.slice A2 evs.length c2, .slice A xs.length c] w fun e w' => e = .returned (.int .i64 (badN evs (xs.map Hx.m) : Int)) ∧ Below w.heap.size w w' := by
  obtain ⟨ms, hms⟩ : ∃ ms, xs.map Hx.m = ms := ⟨_, rfl⟩
  have hml : ms.length = xs.length := by rw [← hms]; simp
  have hmj : ∀ j (hj : j < xs.length), ms[j]'(by omega) = xs[j].m := by intro j hj; simp only [← hms, List.getElem_map]
  have hkone : ∀ h0 : 0 < xs.length, kOne ms = xs[0].k := by
    intro h0
    subst hms
    cases xs with
    | nil => simp at h0
    | cons x xs => rfl
  have hall : ∀ k0, (∀ i (hi : i < xs.length), xs[i].k = k0) → 0 < xs.length → alikeB ms = true := by
    intro k0 hk h0
    unfold alikeB
    rw [List.all_eq_true]
    intro m hm'
    rw [hkone h0, hk 0 h0]
    rw [← hms] at hm'
    obtain ⟨x, hx, rfl⟩ := List.mem_map.1 hm'
    obtain ⟨i, hi, rfl⟩ := List.getElem_of_mem hx
    have e1 := hk i hi
    show (xs[i].k == k0) = true
    rw [e1]
    simp
  have hnot : ∀ j (hj : j < xs.length), xs[j].k ≠ (xs[0]'(by omega)).k → alikeB ms = false := by
    intro j hj hne
    rw [Bool.eq_false_iff]
    intro hh
    unfold alikeB at hh
    rw [List.all_eq_true] at hh
    have := hh xs[j].m (by rw [← hms]; exact List.mem_map.2 ⟨_, List.getElem_mem hj, rfl⟩)
    rw [hkone (by omega)] at this
    have e4 : (xs[j].m).1 = xs[j].k := rfl
    rw [e4] at this
    simp at this
    exact hne this
  have hwe := weighed_any evs (by omega) hf w w.heap.size (Nat.le_refl _) A2 c2 h2
  obtain ⟨C, hC⟩ : ∃ C, badN evs ms = C := ⟨_, rfl⟩
  rw [hms, hC]
  unfold badN at hC
  rw [hml] at hC
  obtain ⟨q1, hq1⟩ : ∃ q, lightB evs = q := ⟨_, rfl⟩
  obtain ⟨q4, hq4⟩ : ∃ q, earlyB evs = q := ⟨_, rfl⟩
  obtain ⟨M, hM⟩ : ∃ M, min (totE evs) 4503599627370497 = M := ⟨_, rfl⟩
  rw [hq1, hq4, hM] at hwe
  rw [hq1, hq4] at hC
  obtain ⟨N, hN⟩ : ∃ N, xs.length = N := ⟨_, rfl⟩
  obtain ⟨N2, hN2⟩ : ∃ N, evs.length = N := ⟨_, rfl⟩
  rw [hN2] at hwe ⊢
  have HWE := Lib.hid hwe
  have HCC := Lib.hid hC
  clear hwe hC hq1 hq4 h2
  by_cases h0 : N = 0
  · have hc : C = 1 := by rw [← HCC.out, if_pos (.inl (by omega))]
    rw [hN, h0]
    have HC := Lib.hid hc
    clear hc h0 h hN hml hmj hall hnot hm hg hl
    go_enter Try.func79, Try.ntmps79
    go_wp2_with (go_at_call 92; refine HWE.out.mono ?_; rintro e w' ⟨rfl, rfl⟩)
    go_ret
    exact ⟨by rw [HC.out]; rfl, Below.refl _ _⟩
  have hN0 : ((N : Int) == 0) = false := by rw [beq_eq_false_iff_ne]; omega
  cases q1 with
  | false =>
    have hc : C = 1 := by rw [← HCC.out, if_pos (.inr rfl)]
    have HC := Lib.hid hc
    rw [hN]
    clear hc h0 h hN hml hmj hall hnot hm hg hl
    go_enter Try.func79, Try.ntmps79
    go_wp2_with (go_at_call 92; refine HWE.out.mono ?_; rintro e w' ⟨rfl, rfl⟩)
    go_ret
    exact ⟨by rw [HC.out]; rfl, Below.refl _ _⟩
  | true =>
    have hx0 : 0 < xs.length := by omega
    obtain ⟨b2, off2, rfl, hb2, -, hc2⟩ := h.at hx0
    obtain ⟨z0, -, -, -⟩ := hc2 0 hx0
    obtain ⟨k0, hk0⟩ : ∃ k, xs[0].k = k := ⟨_, rfl⟩
    rw [hk0] at z0
    have hC2 : (if alikeB ms = false then 9 else if 4 ≤ gmax ms then 10 else if q4 = false then 6 else if 4503599627370496 < totM ms + totE evs then 5 else 0) = C := by
      have := HCC.out
      rw [if_neg (by rintro (h | h); · omega
                     · cases h)] at this
      exact this
    have htot := fun (j : Nat) (hj : j < xs.length) (W : World) (hW : Below w.heap.size w W) => rtotal_any xs[j].k xs[j].g xs[j].ls (hm _ (List.getElem_mem hj)).1 (Nat.le_trans (hm _ (List.getElem_mem hj)).2 (by omega)) W xs[j].A xs[j].c ((((h.below hW).mono hW.size).2) _ (List.getElem_mem hj))
    have hnot9 : ∀ j (hj : j < xs.length), xs[j].k ≠ k0 → C = 9 := by
      intro j hj hne
      rw [← hC2, if_pos (hnot j hj (by rw [hk0]; exact hne))]
    have hend : (∀ i (hi : i < xs.length), xs[i].k = k0) → (if 4 ≤ gmax ms then 10 else if q4 = false then 6 else if 4503599627370496 < totM ms + totE evs then 5 else 0) = C := by
      intro hk
      rw [hall k0 hk hx0, if_neg (by simp)] at hC2
      exact hC2
    have hgm : ∀ (j : Nat) (hj : j < xs.length), gmax (ms.take (j + 1)) = max (gmax (ms.take j)) xs[j].g := by
      intro j hj
      rw [gmax_take (ms := ms) (i := j) (by omega), hmj j hj]
      rfl
    have htm : ∀ (j : Nat) (hj : j < xs.length), totM (ms.take (j + 1)) = totM (ms.take j) + tot xs[j].ls := by
      intro j hj
      rw [totM_take (ms := ms) (j := j) (by omega), hmj j hj]
      rfl
    have hbig := fun (j : Nat) => totM_le (ms := ms.take j) (B := 4503599627370496) (fun m hm' => by
      have := List.mem_of_mem_take hm'
      rw [← hms] at this
      obtain ⟨x, hx, rfl⟩ := List.mem_map.1 this
      exact (hm x hx).2)
    have hgle := fun (j : Nat) => gmax_le (ms := ms.take j) (B := 4) (by omega) (fun m hm' => by
      have := List.mem_of_mem_take hm'
      rw [← hms] at this
      obtain ⟨x, hx, rfl⟩ := List.mem_map.1 this
      exact hg x hx)
    have HNOT := Lib.hid hnot9
    have HEND := Lib.hid hend
    have HGM := Lib.hid hgm
    have HTM := Lib.hid htm
    have HBIG := Lib.hid hbig
    have HGLE := Lib.hid hgle
    have HTOT := Lib.hid htot
    have HML := Lib.hid hml
    have HH := Lib.hid h
    have HN := Lib.hid hN
    have HM := Lib.hid hM
    rw [hN] at HH hl ⊢
    have hM0 : M ≤ 4503599627370497 := by omega
    clear hnot9 hend hgm htm hbig hgle htot hmj hml h hN hall hnot hm hg hC2 hc2 hM hk0 hkone
    go_enter Try.func79, Try.ntmps79
    go_wp2_with (go_at_call 92; refine HWE.out.mono ?_; rintro e w' ⟨rfl, rfl⟩)
    go_loopw [8, 9, 10, 11] (fun g s o p wr => ∃ j S : Nat, p = .int .i64 (j : Int) ∧ j ≤ N ∧ g = .int .i64 (gmax (ms.take j)) ∧ s = .int .u64 (S : Int) ∧ o = .bool (decide (4503599627370496 < S)) ∧ Hid (S = M + totM (ms.take j)) ∧ Hid (∀ i (hi : i < xs.length), i < j → xs[i].k = k0) ∧ Hid (Below w.heap.size w wr)) (fun _ _ _ p _ => N - (intOf p).toNat)
    case atStart => exact ⟨0, M, rfl, Nat.zero_le _, by simp [gmax], rfl, by congr 1; rw [Bool.eq_iff_iff]; simp; omega, Lib.hid (by simp [totM]), Lib.hid fun i _ hi => absurd hi (by omega), Lib.hid (Below.refl _ _)⟩
    case round =>
      obtain ⟨j, S, rfl, hj, rfl, rfl, rfl, HS, HK, HB⟩ := hrel
      obtain ⟨G, hG⟩ : ∃ G, gmax (ms.take j) = G := ⟨_, rfl⟩
      have g0 : 0 ≤ G := by rw [← hG]; exact gmax_nonneg _
      have g4 : G ≤ 4 := by rw [← hG]; exact HGLE.out j
      obtain ⟨o, ho⟩ : ∃ o, decide (4503599627370496 < S) = o := ⟨_, rfl⟩
      rw [hG, ho]
      by_cases hlt : j < N
      · have hjl : j < xs.length := by rw [HN.out]; exact hlt
        obtain ⟨b3, off3, e3, hb3, -, hc3⟩ := (HH.out.below HB.out).at (by omega)
        injection e3 with e3
        injection e3 with e31 e32
        subst e31 e32
        obtain ⟨e0, e1, e2, -⟩ := hc3 j hjl
        have z0' := (HB.out.cell (p := ⟨b2, off2, none⟩) hb2).trans z0
        have hgj := HGM.out j hjl
        have htj := HTM.out j hjl
        have htt := HTOT.out j hjl
        have hnj := HNOT.out j hjl
        have hbj := HBIG.out (j + 1)
        have hlen : (ms.take (j + 1)).length ≤ 16 := by have := HML.out; have := HN.out; simp; omega
        have hSS := HS.out
        rw [hG] at hgj
        have hgle := HGLE.out (j + 1)
        obtain ⟨kj, hkj⟩ : ∃ k, xs[j].k = k := ⟨_, rfl⟩
        rw [hkj] at e0 hnj
        simp only [hkj] at htt
        obtain ⟨T, hT⟩ : ∃ T, tot xs[j].ls = T := ⟨_, rfl⟩
        rw [hT] at htj
        simp only [hT] at htt
        generalize xs[j].g = t1 at *
        generalize xs[j].A = t2 at *
        generalize xs[j].ls.length = t3 at *
        generalize xs[j].c = t4 at *
        have hbb : b2 < wr.heap.size := Nat.lt_of_lt_of_le hb2 HB.out.size
        have HTT := Lib.hid htt
        have HNJ := Lib.hid hnj
        have HGJ := Lib.hid hgj
        have HHO := Lib.hid ho
        obtain ⟨S2, hS2⟩ : ∃ S2, S + T = S2 := ⟨_, rfl⟩
        have hS2b : S2 ≤ 80000000000000000 := by
          have : (ms.take (j + 1)).length * 4503599627370496 ≤ 16 * 4503599627370496 := Nat.mul_le_mul_right _ hlen
          omega
        have hS2e : S2 = M + totM (ms.take (j + 1)) := by omega
        have HS2 := Lib.hid hS2
        have HS2E := Lib.hid hS2e
        have HKJ := Lib.hid hkj
        clear hc3 htt hnj hgj htj hbj hlen hSS hT hG ho hgle hS2e z0 hkj hS2
        by_cases hk : kj = k0
        · subst hk
          go_upto_region 10 with (fail)
          go_region
          all_goals
            have hst : (S : Int) + (T : Int) ≤ 80000000000000000 := by have := HS2.out; omega
            cases o with
            | true =>
              have HTW := Lib.hid (HTT.out wr.drew HB.out.drew)
              go_wp2_with (go_at_call 45; refine HTW.out.mono ?_; rintro e w9 ⟨rfl, hb9⟩; have HB9 := Lib.hid hb9; clear hb9)
              refine ⟨⟨j + 1, S2, by go_num, hlt, by rw [HGJ.out]; first | done | (congr 1; split <;> omega), by rw [← HS2.out]; go_num, ?_, HS2E, Lib.hid fun i hi hij => ?_, Lib.hid (thn HB.out.drew HB9.out)⟩, by simp [intOf]; omega⟩
              · have h1 := of_decide_eq_true HHO.out
                have h2 := HS2.out
                rw [decide_eq_true (by omega)]
              · rcases Nat.lt_or_ge i j with h' | h'
                · exact HK.out i hi h'
                · have e : i = j := by omega
                  subst e
                  exact HKJ.out
            | false =>
              have HTW := Lib.hid (HTT.out wr.drew HB.out.drew)
              go_wp2_with (go_at_call 45; refine HTW.out.mono ?_; rintro e w9 ⟨rfl, hb9⟩; have HB9 := Lib.hid hb9; clear hb9)
              refine ⟨⟨j + 1, S2, by go_num, hlt, by rw [HGJ.out]; first | done | (congr 1; split <;> omega), by rw [← HS2.out]; go_num, ?_, HS2E, Lib.hid fun i hi hij => ?_, Lib.hid (thn HB.out.drew HB9.out)⟩, by simp [intOf]; omega⟩
              · have h2 := HS2.out
                congr 1
                rw [Bool.eq_iff_iff]
                simp
                omega
              · rcases Nat.lt_or_ge i j with h' | h'
                · exact HK.out i hi h'
                · have e : i = j := by omega
                  subst e
                  exact HKJ.out
        · have hq : (kj != k0) = true := by simpa using hk
          have h9 := HNJ.out hk
          have H9 := Lib.hid h9
          clear h9 hk
          go_upto_region 10 with (fail)
          go_region
          all_goals
            go_wp2
            go_ret
            exact ⟨by rw [H9.out]; rfl, HB.out.drew⟩
      · have e : j = N := by omega
        subst e
        have hfin := HEND.out fun i hi => HK.out i hi (by rw [← HN.out]; exact hi)
        have hSS := HS.out
        rw [← HN.out, ← HML.out, List.take_length] at hG hSS
        rw [hG] at hfin
        have hov : (4503599627370496 < totM ms + totE evs) ↔ (4503599627370496 < S) := by have := HM.out; omega
        simp only [hov] at hfin
        have HFIN := Lib.hid hfin
        have HHO := Lib.hid ho
        clear hfin hSS hov hG ho z0
        by_cases hg4 : 4 ≤ G
        · have hc : C = 10 := by rw [← HFIN.out, if_pos hg4]
          have HC := Lib.hid hc
          clear hc
          go_wp2
          go_ret
          exact ⟨by rw [HC.out]; rfl, HB.out⟩
        · cases q4 with
          | false =>
            have hc : C = 6 := by rw [← HFIN.out, if_neg hg4, if_pos rfl]
            have HC := Lib.hid hc
            clear hc
            go_wp2
            go_ret
            exact ⟨by rw [HC.out]; rfl, HB.out⟩
          | true =>
            cases o with
            | true =>
              have hc : C = 5 := by rw [← HFIN.out, if_neg hg4, if_neg (by simp), if_pos (of_decide_eq_true HHO.out)]
              have HC := Lib.hid hc
              clear hc
              go_wp2
              go_ret
              exact ⟨by rw [HC.out]; rfl, HB.out⟩
            | false =>
              have hc : C = 0 := by rw [← HFIN.out, if_neg hg4, if_neg (by simp), if_neg (of_decide_eq_false HHO.out)]
              have HC := Lib.hid hc
              clear hc
              go_wp2
              go_ret
              exact ⟨by rw [HC.out]; rfl, HB.out⟩

end Go.Proofs.Ytmdknedngiggdaa
end
section
/- replay.ticks, its function that is ranged over: each tick of sorted lots once, with all its weight. -/
namespace Go.Proofs.Rw
open Go Go.RowKit
theorem lies_own {α : Type} {L : Lay α} {w w' : World} {B : Nat} {v : Value} {xs : List α} (h : Lies L w B v xs) (hk : ∀ b, b < B → v.ownBlock = some b → w'.heap[b]? = w.heap[b]?) : Lies L w' B v xs := by
  obtain ⟨A, cap, rfl, h1, h2, h3⟩ := h
  refine ⟨A, cap, rfl, h1, h2, ?_⟩
  rcases h3 with h3 | ⟨b, off, hb, rfl, hc⟩
  · exact .inl h3
  · exact .inr ⟨b, off, hb, rfl, fun j u hu => (World.cell?_of_block (a := ⟨b, off + j, none⟩) (hk b hb rfl)).trans (hc j u hu)⟩
end Go.Proofs.Rw
namespace Go.Proofs.Lh
open Go.Proofs.Lm (Sp)
theorem grp_step {all : List Sp} {g i r t : Nat} (hg : (grp all).drop g = grp (all.drop i)) (hr : 0 < r) (hle : i + r ≤ all.length) (hall : ∀ q (hq : i + q < all.length), q < r → all[i + q].1 = t) (hend : ∀ (h : i + r < all.length), all[i + r].1 ≠ t) :
    (grp all)[g]? = some (t, ((((all.drop i).take r).map fun x => x.2)).sum) ∧ (grp all).drop (g + 1) = grp (all.drop (i + r)) := by
  have e1 : all.drop i = (all.drop i).take r ++ all.drop (i + r) := by rw [← List.drop_drop, List.take_append_drop]
  have hne : (all.drop i).take r ≠ [] := by
    intro e
    have := congrArg List.length e
    simp at this
    omega
  have hrun : ∀ x ∈ (all.drop i).take r, x.1 = t := by
    intro x hx
    obtain ⟨q, hq, rfl⟩ := List.getElem_of_mem hx
    have hq' : q < r ∧ i + q < all.length := by simp at hq; omega
    rw [List.getElem_take, List.getElem_drop]
    exact hall q hq'.2 hq'.1
  have hrest : ∀ y, (all.drop (i + r)).head? = some y → y.1 ≠ t := by
    intro y hy
    rw [List.head?_drop] at hy
    obtain ⟨hl, e⟩ := List.getElem?_eq_some_iff.1 hy
    rw [← e]
    exact hend hl
  have e2 := grp_run t (all.drop (i + r)) hrest _ hne hrun
  rw [← e1, ← hg] at e2
  constructor
  · have := congrArg List.head? e2
    rw [List.head?_drop] at this
    exact this
  · have := congrArg List.tail e2
    rw [List.tail_drop] at this
    exact this
theorem grp_end {all : List Sp} {g : Nat} (hg : (grp all).drop g = grp (all.drop all.length)) (hle : g ≤ (grp all).length) : g = (grp all).length := by
  rw [List.drop_length] at hg
  have := congrArg List.length hg
  rw [List.length_drop] at this
  have e : (grp ([] : List Sp)).length = 0 := rfl
  omega
theorem run_sum {all : List Sp} {i r : Nat} (h : i + r < all.length) : (((all.drop i).take (r + 1)).map fun x => x.2).sum = (((all.drop i).take r).map fun x => x.2).sum + all[i + r].2 := by
  have hl : r < (all.drop i).length := by simp; omega
  rw [List.take_succ_eq_append_getElem hl, List.map_append, List.sum_append, List.getElem_drop]
  simp
theorem run_le (all : List Sp) (i r : Nat) : (((all.drop i).take r).map fun x => x.2).sum ≤ (all.map fun x => x.2).sum := by
  have h1 := sum_take (all.drop i) r
  have e : (all.map fun x => x.2).sum = (((all.take i) ++ (all.drop i)).map fun x => x.2).sum := by rw [List.take_append_drop]
  rw [List.map_append, List.sum_append] at e
  omega
end Go.Proofs.Lh
namespace Go.Proofs.Ytmdknedngiggdaa
open Go.RowKit Go.Shelf Go.Proofs.Rw Go.Proofs.Lh Go.Proofs.Rn

attribute [local go_sem] Oper.semAt_some

abbrev encT (x : Sp) : Array Value := #[.int .u64 (x.1 : Int), .int .u64 (x.2 : Int)]
def PxT (all : List Sp) (k : Nat) (x : Sp) (_ : World) : Prop := (grp all)[k]? = some x
/-- Blocks below B stay as they were, but for two. -/
structure Kx (B p q : Nat) (W W' : World) : Prop where
  size : W.heap.size ≤ W'.heap.size
  block : ∀ b, b < B → b ≠ p → b ≠ q → W'.heap[b]? = W.heap[b]?
theorem Kx.refl (B p q : Nat) (W : World) : Kx B p q W W := ⟨Nat.le_refl _, fun _ _ _ _ => rfl⟩
theorem Kx.trans {B p q : Nat} {X Y Z : World} (h : Kx B p q X Y) (k : Kx B p q Y Z) : Kx B p q X Z := ⟨Nat.le_trans h.size k.size, fun b hb h1 h2 => (k.block b hb h1 h2).trans (h.block b hb h1 h2)⟩
theorem Kx.put {B p q : Nat} {w : World} (hB : B ≤ w.heap.size) (W : World) (l : Nat) (o o' : Obj) (hl : w.heap.size ≤ l) (_ : W.heap[l]? = some o) (_ : o.isCells = false) : Kx B p q W (W.putObj l o') :=
  ⟨by simp, fun b hb _ _ => World.putObj_heap_other (by omega)⟩

end Go.Proofs.Ytmdknedngiggdaa
end
section
/- The contracts of hist.New and of skylightref06.May. -/
namespace Go.Proofs.Ytmdknedngiggdaa
open Go.RowKit Go.Proofs.Rw Go.Proofs.Lh

theorem rMay_any (k : Int) (w : World) :
    Calls Try.prog 42 #[.int .i64 k] w fun e w' => e = .returned (.bool (may k)) ∧ w = w' := by
  by_cases h0 : 2 ≤ k
  · by_cases h1 : k ≤ 1024
    · go_enter Try.func42, Try.ntmps42
      go_wp2
      go_ret
      exact ⟨ret_b (by simp [may, h0, h1]), rfl⟩
    · go_enter Try.func42, Try.ntmps42
      go_wp2
      go_ret
      exact ⟨ret_b (by simp [may, h1]), rfl⟩
  · go_enter Try.func42, Try.ntmps42
    go_wp2
    go_ret
    exact ⟨ret_b (by simp [may]; omega), rfl⟩

end Go.Proofs.Ytmdknedngiggdaa
end
