/- The contracts of the document's own wide (skylightref03). -/
import Derived.Test.YtgaapahhmpiibaaWide
namespace Go.Proofs.Ytgaapahhmpiibaa
open Go.RowKit Go.Proofs.Wm

theorem rAddMod_any (a b : Nat) (ha : a < 18446744073709551616) (hb : b < 18446744073709551616) (w : World) :
    Calls Try.prog 21 #[.int .u64 a, .int .u64 b] w fun e w' => e = n64 (addM a b) ∧ w = w' := by
  go_enter Try.func21, Try.ntmps21
  go_wp2
  go_ret
  refine ⟨congrArg (fun z => Ending.returned (.int .u64 z)) ?_, rfl⟩
  unfold addM pr
  omega

theorem double_any (n b : Nat) (hn : n < 2305843009213693951) (hb : b < 2) (w : World) :
    Calls Try.prog 31 #[.int .u64 n, .int .u64 b] w fun e w' => e = n64 ((2 * n + b) % 2305843009213693951) ∧ w = w' := by
  go_enter Try.func31, Try.ntmps31
  go_wp2
  go_ret
  exact ⟨rfl, rfl⟩

theorem two64 {x y : Int} {h l : Nat} (hx : x = h) (hy : y = l) : Ending.returned (.tuple #[.int .u64 x, .int .u64 y]) = .returned (.tuple #[.int .u64 (h : Nat), .int .u64 (l : Nat)]) := by rw [hx, hy]

theorem rMul_any (a b : Nat) (ha : a < 18446744073709551616) (hb : b < 18446744073709551616) (w : World) :
    Calls Try.prog 28 #[.int .u64 a, .int .u64 b] w fun e w' => e = .returned (.tuple #[.int .u64 (mulHi a b : Nat), .int .u64 (mulLo a b : Nat)]) ∧ w = w' := by
  obtain ⟨a1, a0, ea, la0, la1, -, -⟩ := split32 a ha
  obtain ⟨b1, b0, eb, lb0, lb1, -, -⟩ := split32 b hb
  obtain ⟨p00, e00⟩ : ∃ p, a0 * b0 = p := ⟨_, rfl⟩
  obtain ⟨p11, e11⟩ : ∃ p, a1 * b1 = p := ⟨_, rfl⟩
  obtain ⟨p10, e10⟩ : ∃ p, a1 * b0 = p := ⟨_, rfl⟩
  obtain ⟨p01, e01⟩ : ∃ p, a0 * b1 = p := ⟨_, rfl⟩
  have hp := mul_halves la1 la0 lb1 lb0 e00 e10 e01 e11
  rw [← ea, ← eb] at hp
  obtain ⟨hab, g00, g10, g01, g11⟩ := hp
  have ka1 : (a : Int) / 4294967296 = (a1 : Int) := by omega
  have ka0 : (a : Int) % 4294967296 = (a0 : Int) := by omega
  have kb1 : (b : Int) / 4294967296 = (b1 : Int) := by omega
  have kb0 : (b : Int) % 4294967296 = (b0 : Int) := by omega
  have f00 : (a0 : Int) * (b0 : Int) = (p00 : Int) := by rw [← e00]; rfl
  have f11 : (a1 : Int) * (b1 : Int) = (p11 : Int) := by rw [← e11]; rfl
  have f10 : (a1 : Int) * (b0 : Int) = (p10 : Int) := by rw [← e10]; rfl
  have f01 : (a0 : Int) * (b1 : Int) = (p01 : Int) := by rw [← e01]; rfl
  have hlt := Nat.mul_lt_mul'' ha hb
  rw [hab] at hlt
  have HHI := Lib.hid (show mulHi a b = (p11 * 18446744073709551616 + (p10 + p01) * 4294967296 + p00) / 18446744073709551616 by unfold mulHi; rw [hab])
  have HLO := Lib.hid (show mulLo a b = (p11 * 18446744073709551616 + (p10 + p01) * 4294967296 + p00) % 18446744073709551616 by unfold mulLo; rw [hab])
  clear ea eb e00 e11 e10 e01 hab ha hb
  go_enter Try.func28, Try.ntmps28
  go_wp2
  go_ret2
  refine ⟨two64 ?_ ?_, rfl⟩
  · rw [HHI.out]; omega
  · rw [HLO.out]; omega

theorem half_bit (x k : Nat) : 2 * (x / 2 ^ (k + 1)) + x / 2 ^ k % 2 = x / 2 ^ k := by
  rw [Nat.pow_succ, ← Nat.div_div_eq_div_mul]
  omega

theorem dbl_step1 (x k : Nat) : (2 * (x / 2 ^ (k + 1) % 2305843009213693951) + x / 2 ^ k % 2) % 2305843009213693951 = x / 2 ^ k % 2305843009213693951 := by
  have h := half_bit x k
  generalize x / 2 ^ (k + 1) = y at *
  generalize x / 2 ^ k = z at *
  omega

theorem dbl_step2 (h x k : Nat) (hk : k < 64) : (2 * ((h * 2 ^ (64 - (k + 1)) + x / 2 ^ (k + 1)) % 2305843009213693951) + x / 2 ^ k % 2) % 2305843009213693951 = (h * 2 ^ (64 - k) + x / 2 ^ k) % 2305843009213693951 := by
  have e := half_bit x k
  have e2 : h * 2 ^ (64 - k) = 2 * (h * 2 ^ (64 - (k + 1))) := by
    rw [show 64 - k = 64 - (k + 1) + 1 by omega, Nat.pow_succ, ← Nat.mul_assoc, Nat.mul_comm]
  rw [e2]
  generalize x / 2 ^ (k + 1) = y at *
  generalize x / 2 ^ k = z at *
  generalize h * 2 ^ (64 - (k + 1)) = t at *
  omega

set_option maxHeartbeats 1000000 in
theorem rMod_any (a b : Nat) (ha : a < 18446744073709551616) (hb : b < 18446744073709551616) (w : World) :
    Calls Try.prog 29 #[.int .u64 a, .int .u64 b] w fun e w' => e = n64 (modW a b) ∧ w = w' := by
  have z0 : (0 : Int) = ((a / 2 ^ 64 % 2305843009213693951 : Nat) : Int) := by rw [Nat.div_eq_of_lt (by simpa using ha)]; rfl
  have z1 : (a : Int) % 2305843009213693951 = (((a * 2 ^ (64 - 64) + b / 2 ^ 64) % 2305843009213693951 : Nat) : Int) := by rw [Nat.div_eq_of_lt (show b < 2 ^ 64 by simpa using hb), Nat.sub_self, Nat.pow_zero, Nat.mul_one, Nat.add_zero]; rfl
  have Z0 := Lib.hid z0
  have Z1 := Lib.hid z1
  clear z0 z1
  go_enter Try.func29, Try.ntmps29
  go_wp2
  go_loop [5, 6] (fun n i => ∃ k : Nat, k ≤ 64 ∧ i = .int .i64 ((k : Int) - 1) ∧ n = .int .u64 ((a / 2 ^ k % 2305843009213693951 : Nat) : Int)) (fun _ i => (intOf i + 1).toNat)
  case atStart => exact ⟨64, by omega, rfl, by rw [← Z0.out]⟩
  case round =>
    obtain ⟨k, hk, rfl, rfl⟩ := hrel
    rcases k with _ | k
    · go_wp2
      go_loop [5, 7] (fun n i => ∃ k : Nat, k ≤ 64 ∧ i = .int .i64 ((k : Int) - 1) ∧ n = .int .u64 (((a * 2 ^ (64 - k) + b / 2 ^ k) % 2305843009213693951 : Nat) : Int)) (fun _ i => (intOf i + 1).toNat)
      case atStart => exact ⟨64, by omega, rfl, by rw [Z1.out]⟩
      case round =>
        obtain ⟨k, hk, rfl, rfl⟩ := hrel
        rcases k with _ | k
        · go_wp2
          go_ret
          refine ⟨congrArg (fun z => Ending.returned (.int .u64 z)) ?_, rfl⟩
          unfold modW pr
          omega
        · rw [show (((k + 1 : Nat) : Int) - 1) = (k : Int) by omega]
          have hst := dbl_step2 a b k (by omega)
          have hlt := Nat.mod_lt (a * 2 ^ (64 - (k + 1)) + b / 2 ^ (k + 1)) (show 2305843009213693951 > 0 by decide)
          obtain ⟨y, hy⟩ : ∃ y, (a * 2 ^ (64 - (k + 1)) + b / 2 ^ (k + 1)) % 2305843009213693951 = y := ⟨_, rfl⟩
          rw [hy] at hst hlt ⊢
          have hq : (b : Int) / 2 ^ k = ((b / 2 ^ k : Nat) : Int) := by simp
          obtain ⟨z, hz⟩ : ∃ z, b / 2 ^ k = z := ⟨_, rfl⟩
          have hzl : z < 18446744073709551616 := by rw [← hz]; exact Nat.lt_of_le_of_lt (Nat.div_le_self _ _) hb
          rw [hz] at hq hst
          have hd := double_any y (z % 2) hlt (Nat.mod_lt _ (by decide)) w
          rw [hst] at hd
          have HZ := Lib.hid hz
          have HD := Lib.hid hd
          clear hz hd hst hy
          go_wp2_with (go_at_call 31; refine HD.out.mono ?_; rintro e wa ⟨rfl, rfl⟩; dsimp only [n64])
          refine ⟨⟨k, by omega, rfl, by rw [HZ.out]⟩, ?_⟩
          simp only [intOf]
          omega
    · rw [show (((k + 1 : Nat) : Int) - 1) = (k : Int) by omega]
      have hst := dbl_step1 a k
      have hlt := Nat.mod_lt (a / 2 ^ (k + 1)) (show 2305843009213693951 > 0 by decide)
      obtain ⟨y, hy⟩ : ∃ y, a / 2 ^ (k + 1) % 2305843009213693951 = y := ⟨_, rfl⟩
      rw [hy] at hst hlt ⊢
      have hq : (a : Int) / 2 ^ k = ((a / 2 ^ k : Nat) : Int) := by simp
      obtain ⟨z, hz⟩ : ∃ z, a / 2 ^ k = z := ⟨_, rfl⟩
      have hzl : z < 18446744073709551616 := by rw [← hz]; exact Nat.lt_of_le_of_lt (Nat.div_le_self _ _) ha
      rw [hz] at hq hst
      have hd := double_any y (z % 2) hlt (Nat.mod_lt _ (by decide)) w
      rw [hst] at hd
      have HZ := Lib.hid hz
      have HD := Lib.hid hd
      clear hz hd hst hy
      go_wp2_with (go_at_call 31; refine HD.out.mono ?_; rintro e wa ⟨rfl, rfl⟩; dsimp only [n64])
      refine ⟨⟨k, by omega, rfl, by rw [HZ.out]⟩, ?_⟩
      simp only [intOf]
      omega

theorem rMulMod_any (a b : Nat) (ha : a < 18446744073709551616) (hb : b < 18446744073709551616) (w : World) :
    Calls Try.prog 22 #[.int .u64 a, .int .u64 b] w fun e w' => e = n64 (mulM a b) ∧ w = w' := by
  have h1 := rMul_any a b ha hb w
  have h2 := rMod_any (mulHi a b) (mulLo a b) (mul_lt64 ha hb) (mulLo_lt a b) w
  rw [modW_mul] at h2
  have H1 := Lib.hid h1
  have H2 := Lib.hid h2
  clear h1 h2
  go_enter Try.func22, Try.ntmps22
  go_wp2_with (first
    | (go_at_call 28; refine H1.out.mono ?_; rintro e wa ⟨rfl, rfl⟩)
    | (go_at_call 29; refine H2.out.mono ?_; rintro e wb ⟨rfl, rfl⟩; dsimp only [n64]))
  go_ret
  exact ⟨rfl, rfl⟩

end Go.Proofs.Ytgaapahhmpiibaa
