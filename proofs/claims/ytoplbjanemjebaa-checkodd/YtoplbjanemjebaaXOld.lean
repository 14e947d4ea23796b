/- The contracts of expiry.Old and of the document's Old. -/
import Derived.Test.YtoplbjanemjebaaHMade
import Derived.Test.YtoplbjanemjebaaXMath
import Derived.Test.YtoplbjanemjebaaRowed4
namespace Go.Proofs.Ytoplbjanemjebaa
open Go.RowKit Go.Shelf Go.Proofs.Rw Go.Proofs.Lh

theorem old_any (t f v : Nat) (w : World) (hf : f < 18446744073709551616) : Calls Try.prog 32 #[.int .u64 (t : Int), .int .u64 (f : Int), .int .u64 (v : Int)] w fun e w' => e = .returned (.bool (oldB t f v)) ∧ w = w' := by
  by_cases h0 : v ≤ f
  · have h1 : (v : Int) ≤ (f : Int) := by omega
    have b0 : (0 : Int) ≤ (f : Int) - (v : Int) := by omega
    obtain ⟨d, hd⟩ : ∃ d : Nat, (f : Int) - (v : Int) = (d : Int) := ⟨f - v, by omega⟩
    have b1 : (d : Int) ≤ 18446744073709551615 := by omega
    by_cases h2 : t ≤ d
    · have h3 : (t : Int) ≤ (d : Int) := by omega
      have e : oldB t f v = true := by unfold oldB; rw [decide_eq_true_iff]; omega
      rw [e]
      clear e
      go_enter Try.func32, Try.ntmps32
      go_wp2
      go_ret
      exact ⟨rfl, rfl⟩
    · have h3 : decide (t ≤ d) = false := by simp; omega
      have e : oldB t f v = false := by unfold oldB; rw [decide_eq_false_iff_not]; omega
      rw [e]
      clear e
      go_enter Try.func32, Try.ntmps32
      go_wp2
      go_ret
      exact ⟨rfl, rfl⟩
  · have h1 : decide (v ≤ f) = false := by simp; omega
    have e : oldB t f v = false := by unfold oldB; rw [decide_eq_false_iff_not]; omega
    rw [e]
    clear e
    go_enter Try.func32, Try.ntmps32
    go_wp2
    go_ret
    exact ⟨rfl, rfl⟩

theorem rold_any (t f v : Nat) (w : World) (hf : f < 18446744073709551616) : Calls Try.prog 21 #[.int .u64 (t : Int), .int .u64 (f : Int), .int .u64 (v : Int)] w fun e w' => e = .returned (.bool (oldB t f v)) ∧ w = w' := by
  by_cases h0 : v ≤ f
  · have h1 : (v : Int) ≤ (f : Int) := by omega
    have b0 : (0 : Int) ≤ (f : Int) - (v : Int) := by omega
    obtain ⟨d, hd⟩ : ∃ d : Nat, (f : Int) - (v : Int) = (d : Int) := ⟨f - v, by omega⟩
    have b1 : (d : Int) ≤ 18446744073709551615 := by omega
    by_cases h2 : t ≤ d
    · have h3 : (t : Int) ≤ (d : Int) := by omega
      have e : oldB t f v = true := by unfold oldB; rw [decide_eq_true_iff]; omega
      rw [e]
      clear e
      go_enter Try.func21, Try.ntmps21
      go_wp2
      go_ret
      exact ⟨rfl, rfl⟩
    · have h3 : decide (t ≤ d) = false := by simp; omega
      have e : oldB t f v = false := by unfold oldB; rw [decide_eq_false_iff_not]; omega
      rw [e]
      clear e
      go_enter Try.func21, Try.ntmps21
      go_wp2
      go_ret
      exact ⟨rfl, rfl⟩
  · have h1 : decide (v ≤ f) = false := by simp; omega
    have e : oldB t f v = false := by unfold oldB; rw [decide_eq_false_iff_not]; omega
    rw [e]
    clear e
    go_enter Try.func21, Try.ntmps21
    go_wp2
    go_ret
    exact ⟨rfl, rfl⟩

end Go.Proofs.Ytoplbjanemjebaa
