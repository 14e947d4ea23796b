/- The contracts of the document's own hash (skylightref04). -/
import Derived.BigQuiet
import Derived.Test.YtgaapahhmpiibaaWideRef
import Derived.Test.YtgaapahhmpiibaaHCol
import Derived.Test.YtgaapahhmpiibaaHMath
namespace Go.Proofs.Ytgaapahhmpiibaa
open Go.RowKit Go.Proofs.Wm Go.Proofs.Rf

theorem rKey_any (x : Nat) (w : World) :
    Calls Try.prog 14 #[.int .u64 x] w fun e w' => e = .returned (.bool (keyB x)) ∧ w = w' := by
  go_enter Try.func14, Try.ntmps14
  go_wp2
  go_ret
  refine ⟨congrArg (fun z => Ending.returned (.bool z)) ?_, rfl⟩
  unfold keyB
  rw [decide_eq_decide]
  omega

set_option maxRecDepth 100000 in
theorem rMay_any (a b : Nat) (ha : a < 18446744073709551616) (hb : b < 18446744073709551616) (w : World) :
    Calls Try.prog 12 #[.agg #[.int .u64 a, .int .u64 b]] w fun e w' => e = .returned (.bool (may a b)) ∧ Below w.heap.size w w' := by
  obtain ⟨e1, h1⟩ : ∃ e, decide ((1 : Int) ≤ a) = e := ⟨_, rfl⟩
  obtain ⟨e2, h2⟩ : ∃ e, decide ((a : Int) < 2305843009213693951) = e := ⟨_, rfl⟩
  obtain ⟨e3, h3⟩ : ∃ e, decide ((b : Int) < 2305843009213693951) = e := ⟨_, rfl⟩
  have hm : may a b = (e1 && e2 && e3) := by
    subst h1 h2 h3
    rw [Bool.eq_iff_iff, may_iff]
    simp
    omega
  have HM := Lib.hid hm
  clear hm ha hb
  cases e1 <;> cases e2 <;> cases e3
  all_goals
    go_enter Try.func12, Try.ntmps12
    go_wp2
    go_ret
    exact ⟨congrArg (fun z => Ending.returned (.bool z)) HM.out.symm, below_row _ _⟩

theorem rest_any (a b x : Nat) (ha : a < 18446744073709551616) (hb : b < 18446744073709551616) (hx : x < 18446744073709551616) (w : World) :
    Calls Try.prog 19 #[.agg #[.int .u64 a, .int .u64 b], .int .u64 x] w fun e w' => e = n64 (addM (mulM a x) b) ∧ Below w.heap.size w w' := by
  have m3 := fun W => rMulMod_any a x ha hx W
  have m4 := fun W => rAddMod_any (mulM a x) b (lt64 (mulM_lt _ _)) hb W
  obtain ⟨p, hp⟩ : ∃ p, mulM a x = p := ⟨_, rfl⟩
  rw [hp] at m3 m4 ⊢
  obtain ⟨q, hqe⟩ : ∃ q, addM p b = q := ⟨_, rfl⟩
  rw [hqe] at m4 ⊢
  have M3 := Lib.hid m3
  have M4 := Lib.hid m4
  clear m3 m4 hp hqe
  go_enter Try.func19, Try.ntmps19
  go_upto_region 1 with (fail)
  go_quiet ((first
    | (go_at_call 22; exact Calls.quiet_of_same ((M3.out _).mono fun _ _ ⟨h1, h2⟩ => ⟨h1, h2.symm⟩))
    | (go_at_call 21; exact Calls.quiet_of_same ((M4.out _).mono fun _ _ ⟨h1, h2⟩ => ⟨h1, h2.symm⟩))))
  go_wp2
  go_ret
  exact ⟨rfl, Grows.drewN (below_row _ _) _⟩

set_option maxRecDepth 100000 in
set_option maxHeartbeats 1000000 in
theorem rColumn_any (a b x : Nat) (ha : a < 18446744073709551616) (hb : b < 18446744073709551616) (hx : x < 18446744073709551616) (k : Int) (k0 : -9223372036854775808 ≤ k) (k1 : k ≤ 9223372036854775807) (w : World) :
    Calls Try.prog 10 #[.agg #[.int .u64 a, .int .u64 b], .int .u64 x, .int .i64 k] w fun e w' => e = .returned (.int .i64 (col a b x k)) ∧ Below w.heap.size w w' := by
  obtain ⟨m, hm⟩ : ∃ m, may a b = m := ⟨_, rfl⟩
  obtain ⟨y, hy⟩ : ∃ y, keyB x = y := ⟨_, rfl⟩
  have m1 := fun W => rMay_any a b ha hb W
  have m2 := fun W => rKey_any x W
  have m3 := fun W => rest_any a b x ha hb hx W
  rw [hm] at m1
  rw [hy] at m2
  have hc : col a b x k = if k < 1 then 0 else if m = false then 0 else if y = false then 0 else ((addM (mulM a x) b % k.toNat : Nat) : Int) := by unfold col; rw [hm, hy]
  have hq := addM_lt (mulM a x) b
  obtain ⟨q, hqe⟩ : ∃ q, addM (mulM a x) b = q := ⟨_, rfl⟩
  rw [hqe] at m3 hc hq
  unfold pr at hq
  have M1 := Lib.hid m1
  have M2 := Lib.hid m2
  have M3 := Lib.hid m3
  rw [hc]
  clear m1 m2 m3 hm hy hqe hc
  have hB := below_row w (.cells #[.int .u64 a, .int .u64 b] 24)
  by_cases h1 : k < 1
  · rw [if_pos h1]
    go_enter Try.func10, Try.ntmps10
    go_wp2
    go_ret
    exact ⟨rfl, below_row _ _⟩
  · rw [if_neg h1]
    have hv : (q : Int) % k = ((q % k.toNat : Nat) : Int) := by
      rw [Int.natCast_emod, Int.toNat_of_nonneg (by omega)]
    have hw : -9223372036854775808 ≤ (q : Int) % k ∧ (q : Int) % k ≤ 9223372036854775807 := by
      have h2 := Int.emod_nonneg (q : Int) (show k ≠ 0 by omega)
      have h3 := Int.emod_lt_of_pos (q : Int) (show 0 < k by omega)
      generalize (q : Int) % k = z at *
      omega
    have HV := Lib.hid hv
    have HW := Lib.hid hw
    clear hv hw
    cases m
    · rw [if_pos rfl]
      go_enter Try.func10, Try.ntmps10
      go_wp2_with (first
        | (go_at_call 12; refine (M1.out _).mono ?_; rintro e wn ⟨rfl, hn⟩; obtain ⟨c0, c1⟩ := box_cells hn; replace hB := hB.trans (hn.mono hB.size); clear hn)
        | (go_at_call 14; refine (M2.out _).mono ?_; rintro e wm ⟨rfl, rfl⟩)
        | (go_at_call 19; refine (M3.out _).mono ?_; rintro e wr ⟨rfl, hr⟩; replace hB := hB.trans (hr.mono hB.size); clear hr; dsimp only [n64]))
      go_ret
      exact ⟨rfl, hB⟩
    · rw [if_neg (by decide)]
      cases y
      · rw [if_pos rfl]
        go_enter Try.func10, Try.ntmps10
        go_wp2_with (first
        | (go_at_call 12; refine (M1.out _).mono ?_; rintro e wn ⟨rfl, hn⟩; obtain ⟨c0, c1⟩ := box_cells hn; replace hB := hB.trans (hn.mono hB.size); clear hn)
        | (go_at_call 14; refine (M2.out _).mono ?_; rintro e wm ⟨rfl, rfl⟩)
        | (go_at_call 19; refine (M3.out _).mono ?_; rintro e wr ⟨rfl, hr⟩; replace hB := hB.trans (hr.mono hB.size); clear hr; dsimp only [n64]))
        go_ret
        exact ⟨rfl, hB⟩
      · rw [if_neg (by decide)]
        go_enter Try.func10, Try.ntmps10
        go_wp2_with (first
        | (go_at_call 12; refine (M1.out _).mono ?_; rintro e wn ⟨rfl, hn⟩; obtain ⟨c0, c1⟩ := box_cells hn; replace hB := hB.trans (hn.mono hB.size); clear hn)
        | (go_at_call 14; refine (M2.out _).mono ?_; rintro e wm ⟨rfl, rfl⟩)
        | (go_at_call 19; refine (M3.out _).mono ?_; rintro e wr ⟨rfl, hr⟩; replace hB := hB.trans (hr.mono hB.size); clear hr; dsimp only [n64]))
        go_ret
        exact ⟨congrArg (fun z => Ending.returned (.int .i64 z)) ((IntWalk.wrap64_in _ HW.out).trans HV.out), hB⟩

theorem sq_even (r m j : Nat) : r * m ^ (2 * j) % 2305843009213693951 = r * (mulM m m) ^ j % 2305843009213693951 := by
  unfold mulM pr
  rw [Nat.pow_mul, Nat.pow_two, Nat.mul_mod r ((m * m % 2305843009213693951) ^ j), ← Nat.pow_mod, ← Nat.mul_mod]
theorem sq_odd (r m j : Nat) : r * m ^ (2 * j + 1) % 2305843009213693951 = mulM r m * (mulM m m) ^ j % 2305843009213693951 := by
  rw [Nat.pow_succ, Nat.mul_comm (m ^ (2 * j)), ← Nat.mul_assoc, sq_even]
  show _ = (r * m % 2305843009213693951) * (mulM m m) ^ j % 2305843009213693951
  rw [Nat.mod_mul_mod]

set_option maxHeartbeats 1000000 in
theorem inverse_any (M : Nat) (hM : M = 2305843009213693949) (a : Nat) (ha : a < 18446744073709551616) (w : World) :
    Calls Try.prog 23 #[.int .u64 a] w fun e w' => e = n64 (a ^ M % 2305843009213693951) ∧ w = w' := by
  have hMi : (2305843009213693949 : Int) = (M : Int) := by omega
  have HMI := Lib.hid hMi
  obtain ⟨X, hX⟩ : ∃ X, a ^ M % 2305843009213693951 = X := ⟨_, rfl⟩
  have hs : 1 * a ^ M % 2305843009213693951 = X := by rw [Nat.one_mul]; exact hX
  rw [hX]
  have HS := Lib.hid hs
  have HMB := Lib.hid (show M < 18446744073709551616 by omega)
  clear hs hMi hX hM
  go_enter Try.func23, Try.ntmps23
  go_wp2
  rw [HMI.out]
  go_loop [0, 3, 4] (fun n o e => ∃ m r k : Nat, n = .int .u64 m ∧ o = .int .u64 r ∧ e = .int .u64 k ∧ m < 18446744073709551616 ∧ r < 2305843009213693951 ∧ k < 18446744073709551616 ∧ RowKit.Hid (r * m ^ k % 2305843009213693951 = X)) (fun _ _ e => (intOf e).toNat)
  case atStart => exact ⟨a, 1, M, rfl, rfl, rfl, ha, by decide, HMB.out, HS⟩
  case round =>
    obtain ⟨m, r, k, rfl, rfl, rfl, hm, hr, hk, HI⟩ := hrel
    have m1 := fun W => rMulMod_any r m (by omega) hm W
    have m2 := fun W => rMulMod_any m m hm hm W
    have l1 := mulM_lt r m
    have l2 := mulM_lt m m
    unfold pr at l1 l2
    rcases Nat.eq_zero_or_pos k with h0 | h0
    · subst h0
      clear m1 m2 l1 l2
      go_wp2
      go_ret
      refine ⟨congrArg (fun z : Nat => Ending.returned (.int .u64 (z : Int))) ?_, rfl⟩
      have h := HI.out
      rw [Nat.pow_zero, Nat.mul_one, Nat.mod_eq_of_lt hr] at h
      exact h
    · obtain ⟨j, hj⟩ : ∃ j, k / 2 = j := ⟨_, rfl⟩
      have hq : (k : Int) / 2 = (j : Int) := by omega
      rcases Nat.mod_two_eq_zero_or_one k with h2 | h2
      · have hke : k = 2 * j := by omega
        have hi : r * (mulM m m) ^ j % 2305843009213693951 = X := by rw [← sq_even, ← hke]; exact HI.out
        have hb : ((k : Int) % 2 == 1) = false := by rw [beq_eq_false_iff_ne]; omega
        obtain ⟨m', hm'⟩ : ∃ m', mulM m m = m' := ⟨_, rfl⟩
        rw [hm'] at m2 l2 hi
        have M2 := Lib.hid m2
        have HI2 := Lib.hid hi
        have HJ := Lib.hid (show j < k by omega)
        clear m1 m2 l1 hi hke hj h2 HI hm'
        go_wp2_with (go_at_call 22; (with_reducible refine (M2.out _).mono ?_); rintro e wn ⟨rfl, rfl⟩; dsimp only [n64])
        refine ⟨⟨m', r, j, rfl, rfl, rfl, by omega, hr, by have := HJ.out; omega, HI2⟩, ?_⟩
        have := HJ.out
        simp only [intOf]
        omega
      · have hke : k = 2 * j + 1 := by omega
        have hi : mulM r m * (mulM m m) ^ j % 2305843009213693951 = X := by rw [← sq_odd, ← hke]; exact HI.out
        have hb : ((k : Int) % 2 == 1) = true := by rw [beq_iff_eq]; omega
        obtain ⟨m', hm'⟩ : ∃ m', mulM m m = m' := ⟨_, rfl⟩
        obtain ⟨r', hr'⟩ : ∃ r', mulM r m = r' := ⟨_, rfl⟩
        rw [hm'] at m2 l2 hi
        rw [hr'] at m1 l1 hi
        have M1 := Lib.hid m1
        have M2 := Lib.hid m2
        have HI2 := Lib.hid hi
        have HJ := Lib.hid (show j < k by omega)
        clear m1 m2 hi hke hj h2 HI hm' hr'
        go_wp2_with (first
          | (go_at_call 22; (with_reducible refine (M1.out _).mono ?_); rintro e wn ⟨rfl, rfl⟩; dsimp only [n64])
          | (go_at_call 22; (with_reducible refine (M2.out _).mono ?_); rintro e wn ⟨rfl, rfl⟩; dsimp only [n64]))
        refine ⟨⟨m', r', j, rfl, rfl, rfl, by omega, l1, by have := HJ.out; omega, HI2⟩, ?_⟩
        have := HJ.out
        simp only [intOf]
        omega

set_option maxRecDepth 100000 in
set_option maxHeartbeats 1000000 in
theorem solve_any (x y u v : Nat) (hx : x < pr) (hy : y < pr) (hu : u < pr) (hv : v < pr) (hxy : x ≠ y) (huv : u ≠ v) (w : World) :
    Calls Try.prog 16 #[.int .u64 x, .int .u64 y, .int .u64 u, .int .u64 v] w fun e w' => ∃ A B : Nat, e = .returned (.agg #[.int .u64 A, .int .u64 B]) ∧ (1 ≤ A ∧ A < 2305843009213693951 ∧ B < 2305843009213693951) ∧ addM (mulM A x) B = u ∧ addM (mulM A y) B = v ∧ Below w.heap.size w w' := by
  obtain ⟨M, hM⟩ : ∃ M : Nat, M = 2305843009213693949 := ⟨_, rfl⟩
  obtain ⟨y', hy'⟩ : ∃ y', pr - y = y' := ⟨_, rfl⟩
  obtain ⟨v', hv'⟩ : ∃ v', pr - v = v' := ⟨_, rfl⟩
  have ey : (2305843009213693951 : Int) - y = y' := by unfold pr at *; omega
  have ev : (2305843009213693951 : Int) - v = v' := by unfold pr at *; omega
  have ly : y' < 18446744073709551616 := by unfold pr at *; omega
  have lv : v' < 18446744073709551616 := by unfold pr at *; omega
  have l1 := addM_lt x y'
  have l2 := addM_lt u v'
  obtain ⟨dx, hdx⟩ : ∃ d, addM x y' = d := ⟨_, rfl⟩
  obtain ⟨du, hdu⟩ : ∃ d, addM u v' = d := ⟨_, rfl⟩
  have m1 := fun W => rAddMod_any x y' (lt64 hx) ly W
  have m2 := fun W => rAddMod_any u v' (lt64 hu) lv W
  rw [hdx] at m1 l1
  rw [hdu] at m2 l2
  have m3 := fun W => inverse_any M hM dx (lt64 l1) W
  obtain ⟨i, hi⟩ : ∃ i, dx ^ M % 2305843009213693951 = i := ⟨_, rfl⟩
  have l3 : i < pr := hi ▸ Nat.mod_lt _ (by decide)
  rw [hi] at m3
  have m4 := fun W => rMulMod_any du i (lt64 l2) (lt64 l3) W
  have l4 := mulM_lt du i
  obtain ⟨A, hA⟩ : ∃ A, mulM du i = A := ⟨_, rfl⟩
  rw [hA] at m4 l4
  have m5 := fun W => rMulMod_any A x (lt64 l4) (lt64 hx) W
  have l5 := mulM_lt A x
  obtain ⟨ax, hax⟩ : ∃ ax, mulM A x = ax := ⟨_, rfl⟩
  rw [hax] at m5 l5
  obtain ⟨ax', hax'⟩ : ∃ ax', pr - ax = ax' := ⟨_, rfl⟩
  have ea : (2305843009213693951 : Int) - ax = ax' := by unfold pr at *; omega
  have la : ax' < 18446744073709551616 := by unfold pr at *; omega
  have m6 := fun W => rAddMod_any u ax' (lt64 hu) la W
  obtain ⟨B, hB⟩ : ∃ B, addM u ax' = B := ⟨_, rfl⟩
  rw [hB] at m6
  have hok := solve_ok M hM hx hy hu hv hxy huv (A := A) (B := B) (by rw [hy', hdx, hv', hdu, hi, hA]) (by rw [hax, hax', hB])
  have HOK := Lib.hid hok
  have M1 := Lib.hid m1
  have M2 := Lib.hid m2
  have M3 := Lib.hid m3
  have M4 := Lib.hid m4
  have M5 := Lib.hid m5
  have M6 := Lib.hid m6
  clear m1 m2 m3 m4 m5 m6 hok hy' hv' hdx hdu hi hA hax hax' hB
  unfold pr at *
  go_enter Try.func16, Try.ntmps16
  go_wp2_with (first
    | (go_at_call 21; (with_reducible refine (M1.out _).mono ?_); rintro e wn ⟨rfl, rfl⟩; dsimp only [n64])
    | (go_at_call 21; (with_reducible refine (M2.out _).mono ?_); rintro e wn ⟨rfl, rfl⟩; dsimp only [n64])
    | (go_at_call 21; (with_reducible refine (M6.out _).mono ?_); rintro e wn ⟨rfl, rfl⟩; dsimp only [n64])
    | (go_at_call 23; (with_reducible refine (M3.out _).mono ?_); rintro e wn ⟨rfl, rfl⟩; dsimp only [n64])
    | (go_at_call 22; (with_reducible refine (M4.out _).mono ?_); rintro e wn ⟨rfl, rfl⟩; dsimp only [n64])
    | (go_at_call 22; (with_reducible refine (M5.out _).mono ?_); rintro e wn ⟨rfl, rfl⟩; dsimp only [n64]))
  refine bodyPost_ret (v := .agg #[.int .u64 A, .int .u64 B]) (by simp [results, Try.results16, go_sem]) rfl ?_
  exact ⟨A, B, rfl, HOK.out.1, HOK.out.2.1, HOK.out.2.2, below_row _ _⟩

end Go.Proofs.Ytgaapahhmpiibaa
