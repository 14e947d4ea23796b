/- The contract of skylightref06.Add, where it refuses. -/
import Derived.Test.YtoplbjanemjebaaHRef6
import Derived.Test.YtoplbjanemjebaaHRSame
import Derived.Test.YtoplbjanemjebaaHAdd2
namespace Go.Proofs.Ytoplbjanemjebaa
open Go.RowKit Go.Shelf Go.Proofs.Rw Go.Proofs.Lh

theorem last_none {ls : Lv} (h : (lastOf ls).isSome = false) : (lastOf ls).getD 0 = 0 := by
  cases hl : lastOf ls with
  | none => rfl
  | some x => rw [hl] at h; cases h

set_option maxRecDepth 100000 in
set_option maxHeartbeats 4000000 in
theorem radd_bad (k : Nat) (g : Int) (ls : Lv) (hmd : Made k ls) (t n0 : Nat) (hn : n0 < 18446744073709551616) (hc : code ls t n0 ≠ 0) (w : World) (A : Option Addr) (c : Nat) (h : Levs w w.heap.size (.slice A ls.length c) ls) :
    Calls Try.prog 20 #[hv k g (.slice A ls.length c), .int .u64 t, .int .u64 n0] w fun e w' => e = hret (hv 0 0 (.slice none 0 0)) (code ls t n0 : Int) ∧ Below w.heap.size w w' := by
  obtain ⟨N, hN⟩ : ∃ N, ls.length = N := ⟨_, rfl⟩
  obtain ⟨W0, hW0, hsz, p0, p1, hB0⟩ := heap_two w (.cells #[.int .i64 k, .int .i64 g, .slice A N c] 29) (.cells #[.int .i64 0, .int .i64 0, .slice none 0 0] 29)
  have hla := rlast_any k g ls W0 A c (h.grow hB0) (by have := hmd.lev 0; omega)
  have hto := fun (W : World) (hW : Below w.heap.size w W) => rtotal_any k g ls (by have := hmd.len; omega) (by have := hmd.small; omega) W A c (h.grow hW)
  have hsm := hmd.small
  obtain ⟨L, hL⟩ : ∃ L, (lastOf ls).getD 0 = L := ⟨_, rfl⟩
  obtain ⟨lb, hlb⟩ : ∃ b, (lastOf ls).isSome = b := ⟨_, rfl⟩
  obtain ⟨T, hT⟩ : ∃ T, tot ls = T := ⟨_, rfl⟩
  have hlz : lb = false → L = 0 := fun e => by rw [← hL]; exact last_none (hlb.trans e)
  unfold lastV at hla
  rw [hL, hlb, hN] at hla
  rw [hT, hN] at hto
  rw [hT] at hsm
  unfold code at hc ⊢
  rw [hL, hT] at hc ⊢
  obtain ⟨C, hC⟩ : ∃ C, (if n0 = 0 then 1 else if 9223372036854775807 < t ∨ t < L then 6 else if 4503599627370496 < n0 ∨ 4503599627370496 < n0 + T then 5 else 0) = C := ⟨_, rfl⟩
  rw [hC] at hc ⊢
  rw [hN]
  have HC := Lib.hid hC
  have HLA := Lib.hid hla
  have HTO := Lib.hid hto
  have HW0 := Lib.hid hW0
  have HSZ := Lib.hid hsz
  have P0 := Lib.hid p0
  have P1 := Lib.hid p1
  have HB0 := Lib.hid hB0
  have HLZ := Lib.hid hlz
  clear hla hto h hmd hL hlb hT hN hW0 hsz p0 p1 hB0 hC hlz
  by_cases c0 : n0 = 0
  · have e : C = 1 := by rw [← HC.out, if_pos c0]
    subst e c0
    obtain ⟨q0, q1, q2⟩ := box3 P1.out
    have f1 : ∀ i, W0.frozen? ⟨w.heap.size + 1, i, none⟩ = false := fun i => by simp [World.frozen?, P1.out]
    have hl1 := lt_of P1.out
    obtain ⟨t0, t1, t2⟩ := box3 (set3 P1.out (.int .i64 0) (.int .i64 0) (.slice none 0 0))
    have T0 := Lib.hid t0
    have T1 := Lib.hid t1
    have T2 := Lib.hid t2
    have F1 := Lib.hid f1
    clear t0 t1 t2 f1 HLZ hsm
    go_enter Try.func20, Try.ntmps20
    go_upto_region 2 with (fail)
    rw [← HW0.out]
    have f1 := F1.out
    go_wp2
    refine bodyPost_ret (v := .tuple #[hv 0 0 (.slice none 0 0), .int .i64 1]) (by simp [results, Try.results20, go_sem, T0.out, T1.out, T2.out]) rfl ⟨rfl, below3 HB0.out (by omega) _ _ _⟩
  have d0 : ((n0 : Int) == 0) = false := by rw [beq_eq_false_iff_ne]; omega
  go_enter Try.func20, Try.ntmps20
  go_upto_region 3 with (fail)
  rw [← HW0.out]
  clear HW0
  have z0 := HSZ.out
  obtain ⟨q0, q1, q2⟩ := box3 P0.out
  have l0 : w.heap.size < W0.heap.size := by omega
  go_upto_region 4 with (go_at_call 33; refine HLA.out.mono ?_; rintro e w1 ⟨rfl, hb1⟩; have HB1 := Lib.hid hb1; clear hb1)
  have m1 : W0.heap.size ≤ w1.heap.size := HB1.out.size
  have r0 := (HB1.out.block w.heap.size (by omega)).trans P0.out
  have r1 := (HB1.out.block (w.heap.size + 1) (by omega)).trans P1.out
  obtain ⟨s0, s1, s2⟩ := box3 r0
  obtain ⟨y0, y1, y2⟩ := box3 r1
  have l1 : w.heap.size < w1.heap.size := by omega
  have l2 := lt_of r1
  have f1 : ∀ i, w1.frozen? ⟨w.heap.size + 1, i, none⟩ = false := fun i => by simp [World.frozen?, r1]
  obtain ⟨t0, t1, t2⟩ := box3 (set3 r1 (.int .i64 0) (.int .i64 0) (.slice none 0 0))
  have T0 := Lib.hid t0
  have T1 := Lib.hid t1
  have T2 := Lib.hid t2
  have R1 := Lib.hid r1
  have HBW := Lib.hid (thn HB0.out HB1.out)
  clear q0 q1 q2 r0 z0 HLA r1 t0 t1 t2
  by_cases c1 : 9223372036854775807 < t
  · have e : C = 6 := by rw [← HC.out, if_neg c0, if_pos (.inl c1)]
    subst e
    have d1 : decide ((9223372036854775807 : Int) < t) = true := by simp; omega
    clear c0 c1 hsm HLZ
    go_wp2
    refine bodyPost_ret (v := .tuple #[hv 0 0 (.slice none 0 0), .int .i64 6]) (by simp [results, Try.results20, go_sem, T0.out, T1.out, T2.out]) rfl ⟨rfl, below3 HBW.out (by omega) _ _ _⟩
  have d1 : decide ((9223372036854775807 : Int) < t) = false := by simp; omega
  by_cases c2 : t < L
  · have e : C = 6 := by rw [← HC.out, if_neg c0, if_pos (.inr c2)]
    subst e
    have elb : lb = true := by
      cases lb with
      | true => rfl
      | false => have := HLZ.out rfl; omega
    subst elb
    have d2 : decide (t < L) = true := by simpa using c2
    clear c0 c1 hsm HLZ
    go_wp2
    refine bodyPost_ret (v := .tuple #[hv 0 0 (.slice none 0 0), .int .i64 6]) (by simp [results, Try.results20, go_sem, T0.out, T1.out, T2.out]) rfl ⟨rfl, below3 HBW.out (by omega) _ _ _⟩
  have d2 : decide (t < L) = false := by simpa using c2
  have e : C = 5 := by
    have := HC.out
    rw [if_neg c0, if_neg (by omega)] at this
    split at this <;> omega
  have hor : 4503599627370496 < n0 ∨ 4503599627370496 < n0 + T := by
    have := HC.out
    rw [if_neg c0, if_neg (by omega)] at this
    split at this
    · assumption
    · omega
  subst e
  go_cut [34] from 25 to 34 (fun s34 wx => s34 = .bool false ∧ w1 = wx)
  case first =>
    clear hor HC
    cases lb
    · go_wp2
      go_meet
      case rel => exact ⟨rfl, rfl⟩
    · go_wp2
      go_meet
      case rel => exact ⟨by first | rfl | exact congrArg Value.bool d2, rfl⟩
  case rest =>
    obtain ⟨rfl, rfl⟩ := hcut
    by_cases c3 : 4503599627370496 < n0
    · have d3 : decide ((4503599627370496 : Int) < n0) = true := by simp; omega
      clear hor HC d2 c0 c1 c2 hsm HLZ
      go_wp2
      refine bodyPost_ret (v := .tuple #[hv 0 0 (.slice none 0 0), .int .i64 5]) (by simp [results, Try.results20, go_sem, T0.out, T1.out, T2.out]) rfl ⟨rfl, below3 HBW.out (by omega) _ _ _⟩
    · have d3 : decide ((4503599627370496 : Int) < n0) = false := by simp; omega
      have d4 : decide ((4503599627370496 : Int) < (n0 : Int) + T) = true := by simp; omega
      have b4 : (n0 : Int) + T ≤ 18446744073709551615 := by omega
      clear hor HC d2 c0 c1 c2 hsm HLZ
      go_upto_region 7 with (go_at_call 27; refine (HTO.out _ HBW.out).mono ?_; rintro e w2 ⟨rfl, hb2⟩; have HB2 := Lib.hid hb2; clear hb2)
      have r1 := (HB2.out.block (w.heap.size + 1) l2).trans R1.out
      obtain ⟨x0, x1, x2⟩ := box3 r1
      have l3 := lt_of r1
      have f2 : ∀ i, w2.frozen? ⟨w.heap.size + 1, i, none⟩ = false := fun i => by simp [World.frozen?, r1]
      obtain ⟨t0, t1, t2⟩ := box3 (set3 r1 (.int .i64 0) (.int .i64 0) (.slice none 0 0))
      have V0 := Lib.hid t0
      have V1 := Lib.hid t1
      have V2 := Lib.hid t2
      clear t0 t1 t2 r1 y0 y1 y2 f1
      go_wp2
      refine bodyPost_ret (v := .tuple #[hv 0 0 (.slice none 0 0), .int .i64 5]) (by simp [results, Try.results20, go_sem, V0.out, V1.out, V2.out]) rfl ⟨rfl, below3 (thn HBW.out HB2.out) (by omega) _ _ _⟩

end Go.Proofs.Ytoplbjanemjebaa
