/- The contracts of level's small functions. -/
import Derived.WalkKit
import Derived.IntWalk
import Derived.Deep.CutBlock
import Derived.Laws.StructEq
import Derived.KernelRfl
import Derived.Test.YtoplbjanemjebaaProg
import Derived.Test.YtoplbjanemjebaaLMath
import Derived.Test.YtoplbjanemjebaaRowed
namespace Go.Proofs.Ytoplbjanemjebaa
open Go.RowKit Go.Proofs.Rw

theorem ret_i {k : IntKind} {a b : Int} (h : a = b) : Ending.returned (.int k a) = .returned (.int k b) := by rw [h]

theorem boundedI_any (n lo hi : Int) (w : World) :
    Calls Try.prog 50 #[.int .i64 n, .int .i64 lo, .int .i64 hi] w fun e w' => e = .returned (.int .i64 (min (max n lo) hi)) ∧ w = w' := by
  go_enter Try.func50, Try.ntmps50
  go_wp2
  all_goals
    go_ret
    exact ⟨ret_i (by omega), rfl⟩
theorem halfI_any (n : Int) (h0 : 0 ≤ n) (hn : n ≤ 9223372036854775807) (w : World) :
    Calls Try.prog 51 #[.int .i64 n] w fun e w' => e = .returned (.int .i64 ((n + 1) / 2)) ∧ w = w' := by
  go_enter Try.func51, Try.ntmps51
  go_wp2
  go_ret
  exact ⟨ret_i (by omega), rfl⟩

/-- How many there must be. -/
def leastI (k i : Int) : Int := if i = 0 then max k 0 else (max k 0 + 1) / 2

theorem least_any (k i : Int) (hk : k ≤ 9223372036854775806) (w : World) :
    Calls Try.prog 43 #[.int .i64 k, .int .i64 i] w fun e w' => e = .returned (.int .i64 (leastI k i)) ∧ w = w' := by
  have e1 : min (max k 0) 9223372036854775807 = max k 0 := by omega
  have m1 := fun W => boundedI_any k 0 9223372036854775807 W
  rw [e1] at m1
  have h0 : 0 ≤ max k 0 := by omega
  have h1 : max k 0 ≤ 9223372036854775807 := by omega
  unfold leastI
  generalize max k 0 = m at *
  have m2 := fun W => halfI_any m h0 h1 W
  have M1 := Lib.hid m1
  have M2 := Lib.hid m2
  clear m1 m2 e1
  by_cases hi : i = 0
  · subst hi
    rw [if_pos rfl]
    go_enter Try.func43, Try.ntmps43
    go_wp2_with (go_at_call 50; (with_reducible refine (M1.out _).mono ?_); rintro e wn ⟨rfl, rfl⟩)
    go_ret
    exact ⟨rfl, rfl⟩
  · rw [if_neg hi]
    have hb : (i == 0) = false := by simpa using hi
    go_enter Try.func43, Try.ntmps43
    go_wp2_with (first
      | (go_at_call 50; (with_reducible refine (M1.out _).mono ?_); rintro e wn ⟨rfl, rfl⟩)
      | (go_at_call 51; (with_reducible refine (M2.out _).mono ?_); rintro e wn ⟨rfl, rfl⟩))
    go_ret
    exact ⟨rfl, rfl⟩
theorem leastI_le (k i : Int) (hk : k ≤ 9223372036854775806) : 0 ≤ leastI k i ∧ leastI k i ≤ 9223372036854775806 := by
  unfold leastI
  split <;> omega
theorem most_any (k i : Int) (hk : k ≤ 9223372036854775806) (w : World) :
    Calls Try.prog 44 #[.int .i64 k, .int .i64 i] w fun e w' => e = .returned (.int .i64 (leastI k i + 1)) ∧ w = w' := by
  have m1 := fun W => least_any k i hk W
  obtain ⟨h0, h1⟩ := leastI_le k i hk
  generalize leastI k i = m at *
  have M1 := Lib.hid m1
  clear m1
  go_enter Try.func44, Try.ntmps44
  go_wp2_with (go_at_call 43; (with_reducible refine (M1.out _).mono ?_); rintro e wn ⟨rfl, rfl⟩)
  go_ret
  exact ⟨rfl, rfl⟩

/-- The two results of 'settle'. -/
def tw (a b : Nat) : Ending := .returned (.tuple #[.int .u64 (a : Int), .int .u64 (b : Int)])
theorem tw_mk {x y : Int} {a b : Nat} (h1 : x = a) (h2 : y = b) : Ending.returned (.tuple #[.int .u64 x, .int .u64 y]) = tw a b := by rw [h1, h2]; rfl

end Go.Proofs.Ytoplbjanemjebaa
