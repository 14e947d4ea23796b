/- Products of 128 bits and rests by 2^61 less 1, in Nat. -/
namespace Go.Proofs.Wm

/-- The prime. -/
def pr : Nat := 2305843009213693951
def mulHi (a b : Nat) : Nat := a * b / 18446744073709551616
def mulLo (a b : Nat) : Nat := a * b % 18446744073709551616
def modW (h l : Nat) : Nat := (h * 18446744073709551616 + l) % pr
def mulM (a b : Nat) : Nat := a * b % pr
def addM (a b : Nat) : Nat := (a + b) % pr

theorem mulM_lt (a b : Nat) : mulM a b < pr := Nat.mod_lt _ (by decide)
theorem addM_lt (a b : Nat) : addM a b < pr := Nat.mod_lt _ (by decide)
theorem modW_lt (a b : Nat) : modW a b < pr := Nat.mod_lt _ (by decide)
theorem pr_lt : pr < 18446744073709551616 := by decide

theorem mul_lt64 {a b : Nat} (ha : a < 18446744073709551616) (hb : b < 18446744073709551616) : mulHi a b < 18446744073709551616 := by
  unfold mulHi
  exact Nat.div_lt_of_lt_mul (Nat.mul_lt_mul'' ha hb)
theorem mulLo_lt (a b : Nat) : mulLo a b < 18446744073709551616 := Nat.mod_lt _ (by decide)

theorem modW_mul (a b : Nat) : modW (mulHi a b) (mulLo a b) = mulM a b := by
  unfold modW mulHi mulLo mulM
  rw [Nat.mul_comm (a * b / 18446744073709551616), Nat.div_add_mod]

/-- Halves: x = x1 * 2^32 + x0. -/
theorem halves (a : Nat) : a = a / 4294967296 * 4294967296 + a % 4294967296 := by omega

/-- What the halves' products come to: program's way. -/
theorem mul_halves {a1 a0 b1 b0 p00 p10 p01 p11 : Nat} (ha1 : a1 < 4294967296) (ha0 : a0 < 4294967296) (hb1 : b1 < 4294967296) (hb0 : b0 < 4294967296)
    (h00 : a0 * b0 = p00) (h10 : a1 * b0 = p10) (h01 : a0 * b1 = p01) (h11 : a1 * b1 = p11) :
    (a1 * 4294967296 + a0) * (b1 * 4294967296 + b0) = p11 * 18446744073709551616 + (p10 + p01) * 4294967296 + p00
    ∧ p00 ≤ 18446744065119617025 ∧ p10 ≤ 18446744065119617025 ∧ p01 ≤ 18446744065119617025 ∧ p11 ≤ 18446744065119617025 := by
  have q : ∀ {x y : Nat}, x < 4294967296 → y < 4294967296 → x * y ≤ 18446744065119617025 := fun {x y} hx hy =>
    Nat.le_trans (Nat.mul_le_mul (Nat.le_of_lt_succ hx) (Nat.le_of_lt_succ hy)) (by decide)
  refine ⟨?_, h00 ▸ q ha0 hb0, h10 ▸ q ha1 hb0, h01 ▸ q ha0 hb1, h11 ▸ q ha1 hb1⟩
  subst h00 h10 h01 h11
  rw [Nat.add_mul, Nat.mul_add, Nat.mul_add]
  have e1 : a1 * 4294967296 * (b1 * 4294967296) = a1 * b1 * 18446744073709551616 := by
    rw [Nat.mul_assoc, Nat.mul_left_comm 4294967296 b1, ← Nat.mul_assoc, ← Nat.mul_assoc]
  have e2 : a1 * 4294967296 * b0 = a1 * b0 * 4294967296 := Nat.mul_right_comm _ _ _
  have e3 : a0 * (b1 * 4294967296) = a0 * b1 * 4294967296 := (Nat.mul_assoc _ _ _).symm
  omega

theorem rest64 (h : Nat) : h * 18446744073709551616 % pr = h % pr * 8 % pr := by
  unfold pr
  omega

theorem modW_way (h l : Nat) : (h % pr * 8 % pr + l % pr) % pr = modW h l := by
  unfold modW pr
  omega

end Go.Proofs.Wm
