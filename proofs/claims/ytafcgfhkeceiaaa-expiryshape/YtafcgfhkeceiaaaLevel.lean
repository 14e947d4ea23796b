/- The contracts of level's small functions. -/
import Derived.WalkKit
import Derived.IntWalk
import Derived.Deep.CutBlock
import Derived.Laws.StructEq
import Derived.KernelRfl
import Derived.Test.YtafcgfhkeceiaaaProg
import Derived.Test.YtafcgfhkeceiaaaLMath
import Derived.Test.YtafcgfhkeceiaaaRowed
namespace Go.Proofs.Ytafcgfhkeceiaaa
open Go.RowKit Go.Proofs.Rw

theorem ret_i {k : IntKind} {a b : Int} (h : a = b) : Ending.returned (.int k a) = .returned (.int k b) := by rw [h]

theorem boundedI_any (n lo hi : Int) (w : World) :
    Calls Try.prog 44 #[.int .i64 n, .int .i64 lo, .int .i64 hi] w fun e w' => e = .returned (.int .i64 (min (max n lo) hi)) ∧ w = w' := by
  go_enter Try.func44, Try.ntmps44
  go_wp2
  all_goals
    go_ret
    exact ⟨ret_i (by omega), rfl⟩
theorem boundedU_any (n lo hi : Int) (w : World) :
    Calls Try.prog 47 #[.int .u64 n, .int .u64 lo, .int .u64 hi] w fun e w' => e = .returned (.int .u64 (min (max n lo) hi)) ∧ w = w' := by
  go_enter Try.func47, Try.ntmps47
  go_wp2
  all_goals
    go_ret
    exact ⟨ret_i (by omega), rfl⟩
theorem halfU_any (n : Nat) (hn : n < 18446744073709551616) (w : World) :
    Calls Try.prog 48 #[.int .u64 n] w fun e w' => e = .returned (.int .u64 ((n + 1) / 2 : Nat)) ∧ w = w' := by
  go_enter Try.func48, Try.ntmps48
  go_wp2
  go_ret
  exact ⟨ret_i (by omega), rfl⟩
theorem halfI_any (n : Int) (h0 : 0 ≤ n) (hn : n ≤ 9223372036854775807) (w : World) :
    Calls Try.prog 52 #[.int .i64 n] w fun e w' => e = .returned (.int .i64 ((n + 1) / 2)) ∧ w = w' := by
  go_enter Try.func52, Try.ntmps52
  go_wp2
  go_ret
  exact ⟨ret_i (by omega), rfl⟩

/-- How many there must be. -/
def leastI (k i : Int) : Int := if i = 0 then max k 0 else (max k 0 + 1) / 2

theorem least_any (k i : Int) (hk : k ≤ 9223372036854775806) (w : World) :
    Calls Try.prog 49 #[.int .i64 k, .int .i64 i] w fun e w' => e = .returned (.int .i64 (leastI k i)) ∧ w = w' := by
  have e1 : min (max k 0) 9223372036854775807 = max k 0 := by omega
  have m1 := fun W => boundedI_any k 0 9223372036854775807 W
  rw [e1] at m1
  have h0 : 0 ≤ max k 0 := by omega
  have h1 : max k 0 ≤ 9223372036854775807 := by omega
  unfold leastI
  generalize max k 0 = m at *
  have m2 := fun W => halfI_any m h0 h1 W
  have M1 := Lib.hid m1
  have M2 := Lib.hid m2
  clear m1 m2 e1
  by_cases hi : i = 0
  · subst hi
    rw [if_pos rfl]
    go_enter Try.func49, Try.ntmps49
    go_wp2_with (go_at_call 44; (with_reducible refine (M1.out _).mono ?_); rintro e wn ⟨rfl, rfl⟩)
    go_ret
    exact ⟨rfl, rfl⟩
  · rw [if_neg hi]
    have hb : (i == 0) = false := by simpa using hi
    go_enter Try.func49, Try.ntmps49
    go_wp2_with (first
      | (go_at_call 44; (with_reducible refine (M1.out _).mono ?_); rintro e wn ⟨rfl, rfl⟩)
      | (go_at_call 52; (with_reducible refine (M2.out _).mono ?_); rintro e wn ⟨rfl, rfl⟩))
    go_ret
    exact ⟨rfl, rfl⟩
theorem leastI_le (k i : Int) (hk : k ≤ 9223372036854775806) : 0 ≤ leastI k i ∧ leastI k i ≤ 9223372036854775806 := by
  unfold leastI
  split <;> omega
theorem most_any (k i : Int) (hk : k ≤ 9223372036854775806) (w : World) :
    Calls Try.prog 41 #[.int .i64 k, .int .i64 i] w fun e w' => e = .returned (.int .i64 (leastI k i + 1)) ∧ w = w' := by
  have m1 := fun W => least_any k i hk W
  obtain ⟨h0, h1⟩ := leastI_le k i hk
  generalize leastI k i = m at *
  have M1 := Lib.hid m1
  clear m1
  go_enter Try.func41, Try.ntmps41
  go_wp2_with (go_at_call 49; (with_reducible refine (M1.out _).mono ?_); rintro e wn ⟨rfl, rfl⟩)
  go_ret
  exact ⟨rfl, rfl⟩

/-- The two results of 'settle'. -/
def tw (a b : Nat) : Ending := .returned (.tuple #[.int .u64 (a : Int), .int .u64 (b : Int)])
theorem tw_mk {x y : Int} {a b : Nat} (h1 : x = a) (h2 : y = b) : Ending.returned (.tuple #[.int .u64 x, .int .u64 y]) = tw a b := by rw [h1, h2]; rfl

theorem settle_any (there come room : Nat) (h1 : there ≤ room) (h2 : room < 9223372036854775808) (h3 : come < 18446744073709551616) (hr : 1 ≤ room) (w : World) :
    Calls Try.prog 45 #[.int .u64 there, .int .u64 come, .int .u64 room] w fun e w' => e = tw (there + min come (room - there) - (come - min come (room - there)) % 2) ((come - min come (room - there) + 1) / 2) ∧ w = w' := by
  obtain ⟨r, hrr⟩ : ∃ r, room - there = r := ⟨_, rfl⟩
  have e1 : (room : Int) - there = r := by omega
  obtain ⟨fit, hf⟩ : ∃ f, min come r = f := ⟨_, rfl⟩
  obtain ⟨over, ho⟩ : ∃ o, come - fit = o := ⟨_, rfl⟩
  have e2 : min (max (come : Int) 0) r = fit := by omega
  have e3 : (come : Int) - fit = over := by omega
  rw [hrr, hf, ho]
  have m1 := fun W => boundedU_any come 0 r W
  rw [e2] at m1
  have m2 := fun W => halfU_any over (by omega) W
  have b1 : over % 2 ≤ there + fit := by omega
  have b2 : (there : Int) + fit ≤ 18446744073709551615 := by omega
  have M1 := Lib.hid m1
  have M2 := Lib.hid m2
  have E1 := Lib.hid e1
  have E3 := Lib.hid e3
  have b3 : (0 : Int) ≤ (room : Int) - there := by omega
  have b4 : (room : Int) - there ≤ 18446744073709551615 := by omega
  have b5 : (0 : Int) ≤ (come : Int) - fit := by omega
  have b6 : (come : Int) - fit ≤ 18446744073709551615 := by omega
  have b7 : over < 18446744073709551616 := by omega
  have b8 : (0 : Int) ≤ (there : Int) + fit - (over : Int) % 2 := by omega
  have b9 : (there : Int) + fit - (over : Int) % 2 ≤ 18446744073709551615 := by omega
  clear m1 m2 e1 e2 e3 hrr hf ho
  go_enter Try.func45, Try.ntmps45
  go_wp2_with (first
      | (go_at_call 47; rw [E1.out]; (with_reducible refine (M1.out _).mono ?_); rintro e wn ⟨rfl, rfl⟩)
      | (go_at_call 48; rw [E3.out]; (with_reducible refine (M2.out _).mono ?_); rintro e wn ⟨rfl, rfl⟩))
  go_ret2
  refine ⟨tw_mk ?_ rfl, rfl⟩
  have := E3.out
  rw [IntWalk.u64_in _ ⟨b8, b9⟩]
  omega

end Go.Proofs.Ytafcgfhkeceiaaa
