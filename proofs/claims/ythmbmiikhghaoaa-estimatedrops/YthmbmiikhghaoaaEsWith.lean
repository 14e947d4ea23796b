/- The contracts of skylightref08.Within, and of estimate's within and its closure. -/
import Derived.Shelf.Abstract
import Derived.Shelf.RegionOpen
import Derived.WalkKit
import Derived.OwnWalkIn
import Derived.TacticsInMore
import Derived.LoopNIn
import Derived.LoopIn
import Derived.Deep.OwnRows
import Derived.Stop.RegionWithIn
import Derived.Test.YthmbmiikhghaoaaHMade
import Derived.Test.YthmbmiikhghaoaaEsFlat
namespace Go.Proofs.Ythmbmiikhghaoaa
open Go.RowKit Go.Shelf Go.Proofs.Rw Go.Proofs.Lh Go.Proofs.Rn

attribute [local go_sem] Oper.semAt_some

theorem rwith_any (t f v : Nat) (w : World) (hf : f < 18446744073709551616) : Calls Try.prog 21 #[.int .u64 (t : Int), .int .u64 (f : Int), .int .u64 (v : Int)] w fun e w' => e = .returned (.bool (withB f v t)) ∧ w = w' := by
  by_cases h0 : f < v
  · have h1 : decide (f < v) = true := by simpa using h0
    have e : withB f v t = true := by unfold withB; rw [decide_eq_true_iff]; omega
    rw [e]
    clear e
    go_enter Try.func21, Try.ntmps21
    go_wp2
    go_ret
    exact ⟨rfl, rfl⟩
  · have h1 : decide (f < v) = false := by simp; omega
    have b0 : (0 : Int) ≤ (f : Int) - (v : Int) := by omega
    obtain ⟨d, hd⟩ : ∃ d : Nat, (f : Int) - (v : Int) = (d : Int) := ⟨f - v, by omega⟩
    have b1 : (d : Int) ≤ 18446744073709551615 := by omega
    have e : withB f v t = decide (d < t) := by unfold withB; rw [decide_eq_decide]; omega
    rw [e]
    clear e
    obtain ⟨q, hq⟩ : ∃ q, decide (d < t) = q := ⟨_, rfl⟩
    rw [hq]
    cases q
    all_goals
      go_enter Try.func21, Try.ntmps21
      go_wp2
      go_ret
      exact ⟨rfl, rfl⟩

theorem with1_any (t f v : Nat) (hf : f < 18446744073709551616) (bs bt : Nat) (w : World) (c1 : w.cell? ⟨bs, 0, none⟩ = some (.int .u64 (v : Int))) (c2 : w.cell? ⟨bt, 0, none⟩ = some (.int .u64 (f : Int))) :
    Calls Try.prog 31 #[.int .u64 (t : Int), .pointer (some ⟨bs, 0, none⟩), .pointer (some ⟨bt, 0, none⟩)] w fun e w' => e = .returned (.bool (withB f v t)) ∧ w = w' := by
  by_cases h0 : f < v
  · have h1 : decide (f < v) = true := by simpa using h0
    have e : withB f v t = true := by unfold withB; rw [decide_eq_true_iff]; omega
    rw [e]
    clear e
    go_enter Try.func31, Try.ntmps31
    go_wp2
    go_ret
    exact ⟨rfl, rfl⟩
  · have h1 : decide (f < v) = false := by simp; omega
    have b0 : (0 : Int) ≤ (f : Int) - (v : Int) := by omega
    obtain ⟨d, hd⟩ : ∃ d : Nat, (f : Int) - (v : Int) = (d : Int) := ⟨f - v, by omega⟩
    have b1 : (d : Int) ≤ 18446744073709551615 := by omega
    have e : withB f v t = decide (d < t) := by unfold withB; rw [decide_eq_decide]; omega
    rw [e]
    clear e
    obtain ⟨q, hq⟩ : ∃ q, decide (d < t) = q := ⟨_, rfl⟩
    rw [hq]
    cases q
    all_goals
      go_enter Try.func31, Try.ntmps31
      go_wp2
      go_ret
      exact ⟨rfl, rfl⟩

theorem within_in (n : Nat) (f v : Int) (w : World) :
    CallsIn Fence.wide n Try.prog 19 #[.int .u64 f, .int .u64 v] w fun e w' => e = .returned (.func (.func 31) #[] #[.pointer (some ⟨w.heap.size + 1, 0, none⟩), .pointer (some ⟨w.heap.size, 0, none⟩)]) ∧
      w' = (w.alloc (.cells #[.int .u64 f] 23)).alloc (.cells #[.int .u64 v] 23) := by
  refine callsIn_of_wp Try.func19 rfl trivial ?_ rfl
  simp only [Try.ntmps19, List.size_toArray, List.length_cons, List.length_nil, Nat.reduceAdd, Nat.reduceSub, Array.replicate_succ, Array.replicate_zero, List.push_toArray, List.append_toArray, List.nil_append, List.cons_append]
  gi_wp2
  go_ret
  exact ⟨rfl, rfl⟩

theorem buckets_in (n : Nat) (k g : Int) (s : Value) (w : World) :
    CallsIn Fence.wide n Try.prog 20 #[hv k g s] w fun e w' => e = .returned (.func (.func 32) #[] #[.pointer (some ⟨w.heap.size, 0, none⟩)]) ∧
      w' = w.alloc (.cells #[.int .i64 k, .int .i64 g, s] 32) := by
  refine callsIn_of_wp Try.func20 rfl trivial ?_ rfl
  simp only [Try.ntmps20, List.size_toArray, List.length_cons, List.length_nil, Nat.reduceAdd, Nat.reduceSub, Array.replicate_succ, Array.replicate_zero, List.push_toArray, List.append_toArray, List.nil_append, List.cons_append]
  gi_wp2
  go_ret
  exact ⟨rfl, rfl⟩

end Go.Proofs.Ythmbmiikhghaoaa
