/- The contracts of hash: May, Key, Column. -/
import Derived.Test.YtgaapahhmpiibaaWide
import Derived.Test.YtgaapahhmpiibaaFacts2
import Derived.Laws.StructEq
import Derived.KernelRfl
namespace Go.Proofs.Ytgaapahhmpiibaa
open Go.RowKit Go.Proofs.Wm Go.Proofs.Rf

/-- Whether a seed, and a key, may be. -/
def may (a b : Nat) : Bool := decide (1 ≤ a) && decide (a < 2305843009213693951) && decide (b < 2305843009213693951)
def keyB (x : Nat) : Bool := decide (x < 2305843009213693951)
/-- The column. -/
def col (a b x : Nat) (k : Int) : Int := if k < 1 then 0 else if may a b = false then 0 else if keyB x = false then 0 else ((addM (mulM a x) b % k.toNat : Nat) : Int)

theorem may_iff {a b : Nat} : (may a b = true) ↔ (1 ≤ a ∧ a < 2305843009213693951 ∧ b < 2305843009213693951) := by
  unfold may
  simp [and_assoc]
theorem may_not {a b : Nat} : (may a b = false) ↔ ¬ (1 ≤ a ∧ a < 2305843009213693951 ∧ b < 2305843009213693951) := by
  rw [← may_iff, Bool.not_eq_true]
theorem key_any (x : Nat) (w : World) :
    Calls Try.prog 13 #[.int .u64 x] w fun e w' => e = .returned (.bool (keyB x)) ∧ w = w' := by
  go_enter Try.func13, Try.ntmps13
  go_wp2
  go_ret
  refine ⟨congrArg (fun z => Ending.returned (.bool z)) ?_, rfl⟩
  unfold keyB
  rw [decide_eq_decide]
  omega

theorem seed_type : Try.prog.underlying 24 = some (.struct (Try.prog.fieldsOf 24)) := by kernel_rfl
theorem seed_held : Try.prog.stoodInHeld 24 = false := by kernel_rfl
theorem seed_eq (d : Nat) (a b c e : Int) (w : World) : (Op.equalIn (d + 2) 24 (.agg #[.int .u64 a, .int .u64 b]) (.agg #[.int .u64 c, .int .u64 e])).run Try.prog w = .ok (a == c && b == e) w := by
  rw [run_equalIn_agg w (d + 1) _ _ _ seed_type seed_held]
  simp [go_sem, Try.underlying24, Try.underlying22]
  by_cases h1 : a = c <;> by_cases h2 : b = e <;> simp [h1, h2]
theorem seed_eql (a b c e : Int) (w : World) : (binOp .eql 24 (.agg #[.int .u64 a, .int .u64 b]) (.agg #[.int .u64 c, .int .u64 e])).run Try.prog w = .ok (.bool (a == c && b == e)) w := by
  rw [run_eql_struct, show (10000 : Nat) = 9998 + 2 from rfl, seed_eq]
  rfl
theorem seed_neq (a b c e : Int) (w : World) : (binOp .neq 24 (.agg #[.int .u64 a, .int .u64 b]) (.agg #[.int .u64 c, .int .u64 e])).run Try.prog w = .ok (.bool (!(a == c && b == e))) w := by
  rw [run_neq_struct, show (10000 : Nat) = 9998 + 2 from rfl, seed_eq]
  rfl
theorem seed_guard (op : BinOp) (x y : Operand) (xs ys : Array Value) (w : World) : (eqGuard op 24 x y (.agg xs) (.agg ys)).run Try.prog w = .ok () w := run_eqGuard_agg w op _ x y xs ys (by kernel_rfl)

attribute [local go_sem] seed_eql seed_neq seed_guard

theorem may_any (a b : Nat) (ha : a < 18446744073709551616) (hb : b < 18446744073709551616) (w : World) :
    Calls Try.prog 11 #[.agg #[.int .u64 a, .int .u64 b]] w fun e w' => e = .returned (.bool (may a b)) ∧ Below w.heap.size w w' := by
  go_enter Try.func11, Try.ntmps11
  go_upto_region 3 with (fail)
  obtain ⟨ra, hra⟩ : ∃ ra, (a : Int) % 2305843009213693951 = ra := ⟨_, rfl⟩
  obtain ⟨rb, hrb⟩ : ∃ rb, (b : Int) % 2305843009213693951 = rb := ⟨_, rfl⟩
  rw [hra, hrb]
  obtain ⟨e1, h1⟩ : ∃ e, ((a : Int) == ra) = e := ⟨_, rfl⟩
  obtain ⟨e2, h2⟩ : ∃ e, ((b : Int) == rb) = e := ⟨_, rfl⟩
  obtain ⟨e3, h3⟩ : ∃ e, ((a : Int) == 0) = e := ⟨_, rfl⟩
  have hm : may a b = (e1 && e2 && !e3) := by
    subst h1 h2 h3
    rw [Bool.eq_iff_iff, may_iff]
    simp
    omega
  have HM := Lib.hid hm
  clear hra hrb hm
  cases e1 <;> cases e2 <;> cases e3
  all_goals
    go_wp2
    go_ret
    exact ⟨congrArg (fun z => Ending.returned (.bool z)) HM.out.symm, (((Below.refl _ w).alloc (Nat.le_refl _) _).alloc (by simp) _).alloc (by simp; omega) _⟩

end Go.Proofs.Ytgaapahhmpiibaa
