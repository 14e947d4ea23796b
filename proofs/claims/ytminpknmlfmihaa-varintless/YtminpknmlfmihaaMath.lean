/- Plain mathematics of numbers by digits of seven bits. -/
namespace Go.Proofs.Vm

/-- The digits of a number, lowest first; beside each whether it is the last one. -/
def vdig (n : Nat) : List (Int × Bool) :=
  if n < 128 then [((n : Int) % 128, true)] else ((n : Int) % 128, false) :: vdig (n / 128)
termination_by n
decreasing_by omega

/-- A number as bytes. -/
def vput (n : Nat) : List Int :=
  if n < 128 then [(n : Int)] else ((n % 128 + 128 : Nat) : Int) :: vput (n / 128)
termination_by n
decreasing_by omega

/-- What is appended for a digit. -/
def vbyte (p : Int × Bool) : Int := if p.2 then p.1 else p.1 + 128

theorem vdig_lt {n : Nat} (h : n < 128) : vdig n = [((n : Int) % 128, true)] := by rw [vdig, if_pos h]
theorem vdig_ge {n : Nat} (h : ¬ n < 128) : vdig n = ((n : Int) % 128, false) :: vdig (n / 128) := by rw [vdig, if_neg h]
theorem vput_lt {n : Nat} (h : n < 128) : vput n = [(n : Int)] := by rw [vput, if_pos h]
theorem vput_ge {n : Nat} (h : ¬ n < 128) : vput n = ((n % 128 + 128 : Nat) : Int) :: vput (n / 128) := by rw [vput, if_neg h]

theorem vput_map (n : Nat) : (vdig n).map vbyte = vput n := by
  induction n using Nat.strongRecOn with
  | _ n ih =>
    by_cases h : n < 128
    · rw [vdig_lt h, vput_lt h]; simp [vbyte]; omega
    · rw [vdig_ge h, vput_ge h, List.map_cons, ih (n / 128) (by omega)]; simp [vbyte]

theorem vdig_len (n : Nat) : (vdig n).length = (vput n).length := by rw [← vput_map, List.length_map]

theorem vput_len_pos (n : Nat) : 0 < (vput n).length := by
  by_cases h : n < 128
  · rw [vput_lt h]; simp
  · rw [vput_ge h]; simp

/-- fewer than 128^k: at most k bytes -/
theorem vput_len_le (k : Nat) : ∀ n, n < 128 ^ (k + 1) → (vput n).length ≤ k + 1 := by
  induction k with
  | zero => intro n h; rw [vput_lt (by omega)]; simp
  | succ k ih =>
    intro n h
    by_cases h0 : n < 128
    · rw [vput_lt h0]; simp
    · rw [vput_ge h0]
      have := ih (n / 128) (by
        rw [Nat.div_lt_iff_lt_mul (by omega)]
        rw [Nat.pow_succ] at h; exact h)
      simp only [List.length_cons]; omega

theorem vput_len10 (n : Nat) (h : n < 2 ^ 64) : (vput n).length ≤ 10 := vput_len_le 9 n (by
  have : (2 : Nat) ^ 64 ≤ 128 ^ (9 + 1) := by decide
  omega)

theorem vput_len_iff (k : Nat) : ∀ n, (vput n).length ≤ k + 1 ↔ n < 128 ^ (k + 1) := by
  induction k with
  | zero =>
    intro n
    by_cases h : n < 128
    · rw [vput_lt h]; simpa using h
    · rw [vput_ge h]
      have := vput_len_pos (n / 128)
      simp only [List.length_cons]
      constructor
      · intro; omega
      · intro h'; exact absurd (by simpa using h') h
  | succ k ih =>
    intro n
    by_cases h : n < 128
    · rw [vput_lt h]
      have h1 : 128 ^ 1 ≤ 128 ^ (k + 1 + 1) := Nat.pow_le_pow_right (by omega) (by omega)
      simp only [List.length_cons, List.length_nil]
      constructor
      · intro; omega
      · intro; omega
    · rw [vput_ge h]
      have := ih (n / 128)
      rw [Nat.div_lt_iff_lt_mul (by omega), ← Nat.pow_succ] at this
      rw [← this]
      simp only [List.length_cons]; omega

theorem vput_len_mono (m n : Nat) (h : m ≤ n) : (vput m).length ≤ (vput n).length := by
  obtain ⟨k, hk⟩ : ∃ k, (vput n).length = k + 1 := ⟨(vput n).length - 1, by have := vput_len_pos n; omega⟩
  have h1 := (vput_len_iff k n).1 (by omega)
  have h2 := (vput_len_iff k m).2 (by omega)
  omega

theorem vput_bounds (n : Nat) : ∀ x ∈ vput n, 0 ≤ x ∧ x ≤ 255 := by
  induction n using Nat.strongRecOn with
  | _ n ih =>
    by_cases h : n < 128
    · rw [vput_lt h]; intro x hx; simp at hx; omega
    · rw [vput_ge h]; intro x hx
      rcases List.mem_cons.1 hx with rfl | hx
      · omega
      · exact ih (n / 128) (by omega) x hx

/-! ### What bytes begin with -/

/-- A byte that may be the last one, at place i. -/
def mayB (d : Int) (i : Nat) : Bool := if d = 0 then decide (i = 0) else decide (i < 9) || decide (d ≤ 1)

/-- What the first i bytes bear, all together. -/
def vsum (bs : List Int) : Nat → Nat
  | 0 => 0
  | i + 1 => vsum bs i + (bs.getD i 0).toNat % 128 * 128 ^ i
/-- .. as 64 bits. -/
def vacc (bs : List Int) (i : Nat) : Nat := vsum bs i % 18446744073709551616

/-- The place of the first byte below 128, among the first ten. -/
def vend (bs : List Int) : Option Nat := (List.range (min bs.length 10)).find? fun j => decide (bs.getD j 0 < 128)

/-- What varint.Take tells. -/
def vtake (bs : List Int) : Nat × Nat × Nat :=
  match vend bs with
  | some i => if mayB (bs.getD i 0) i then (vsum bs (i + 1), i + 1, 0) else (0, 0, 2)
  | none => if bs.length < 10 then (0, 0, 3) else (0, 0, 2)

theorem vend_some {bs : List Int} {k : Nat} (hj : ∀ j, j < k → 128 ≤ bs.getD j 0) (h1 : k < bs.length) (h2 : k < 10) (h3 : bs.getD k 0 < 128) : vend bs = some k := by
  unfold vend
  rw [List.find?_range_eq_some]
  refine ⟨by simpa using h3, by simp; omega, fun j h => ?_⟩
  have := hj j h
  simp only [Bool.not_eq_true', decide_eq_false_iff_not]; omega

theorem vend_none {bs : List Int} {k : Nat} (hj : ∀ j, j < k → 128 ≤ bs.getD j 0) (h1 : ¬ (k < bs.length ∧ k < 10)) : vend bs = none := by
  unfold vend
  rw [List.find?_range_eq_none]
  intro j h
  have := hj j (by omega)
  simp only [Bool.not_eq_true', decide_eq_false_iff_not]; omega

theorem vsum_lt (bs : List Int) : ∀ i, vsum bs i < 128 ^ i
  | 0 => by simp [vsum]
  | i + 1 => by
    have := vsum_lt bs i
    have h : (bs.getD i 0).toNat % 128 * 128 ^ i ≤ 127 * 128 ^ i := Nat.mul_le_mul_right _ (by omega)
    simp only [vsum, Nat.pow_succ]; omega

theorem pow128 (k : Nat) : 128 ^ k = 2 ^ (7 * k) := by rw [Nat.pow_mul]

theorem or_step (k a x : Nat) (hk : k < 10) (ha : a < 2 ^ (7 * k)) : (a ||| (x * 2 ^ (7 * k) % 18446744073709551616)) = (a + x * 2 ^ (7 * k)) % 18446744073709551616 := by
  have e : (18446744073709551616 : Nat) = 2 ^ (64 - 7 * k) * 2 ^ (7 * k) := by rw [← Nat.pow_add]; rw [show 64 - 7 * k + 7 * k = 64 by omega]
  rw [e, Nat.mul_mod_mul_right, Nat.or_comm, Nat.mul_comm (x % _), ← Nat.two_pow_add_eq_or_of_lt ha]
  have hp : 0 < 2 ^ (7 * k) := Nat.pow_pos (by omega)
  have hq : 0 < 2 ^ (64 - 7 * k) := Nat.pow_pos (by omega)
  have hm : x % 2 ^ (64 - 7 * k) < 2 ^ (64 - 7 * k) := Nat.mod_lt _ hq
  have h1 : 2 ^ (7 * k) * (x % 2 ^ (64 - 7 * k)) + a < 2 ^ (64 - 7 * k) * 2 ^ (7 * k) := by
    calc 2 ^ (7 * k) * (x % 2 ^ (64 - 7 * k)) + a < 2 ^ (7 * k) * (x % 2 ^ (64 - 7 * k)) + 2 ^ (7 * k) := by omega
      _ = 2 ^ (7 * k) * (x % 2 ^ (64 - 7 * k) + 1) := by rw [Nat.mul_add, Nat.mul_one]
      _ ≤ 2 ^ (7 * k) * 2 ^ (64 - 7 * k) := Nat.mul_le_mul_left _ hm
      _ = _ := Nat.mul_comm _ _
  rw [← Nat.mod_eq_of_lt h1]
  have h2 : a + x * 2 ^ (7 * k) = 2 ^ (7 * k) * (x % 2 ^ (64 - 7 * k)) + a + 2 ^ (64 - 7 * k) * 2 ^ (7 * k) * (x / 2 ^ (64 - 7 * k)) := by
    have := Nat.mod_add_div x (2 ^ (64 - 7 * k))
    calc a + x * 2 ^ (7 * k) = a + (x % 2 ^ (64 - 7 * k) + 2 ^ (64 - 7 * k) * (x / 2 ^ (64 - 7 * k))) * 2 ^ (7 * k) := by rw [this]
      _ = _ := by rw [Nat.add_mul, Nat.mul_comm (x % _), Nat.mul_right_comm]; omega
  rw [h2, Nat.add_mul_mod_self_left]

theorem vacc_step (bs : List Int) (k : Nat) (hk : k < 10) : (vacc bs k ||| ((bs.getD k 0).toNat % 128 * 2 ^ (7 * k) % 18446744073709551616)) = vacc bs (k + 1) := by
  have h1 := vsum_lt bs k
  have h2 : 128 ^ k ≤ 128 ^ 9 := Nat.pow_le_pow_right (by omega) (by omega)
  have h3 : (128 : Nat) ^ 9 = 9223372036854775808 := by decide
  unfold vacc
  rw [Nat.mod_eq_of_lt (by omega), or_step k _ _ hk (by rw [← pow128]; exact h1), vsum, pow128]

theorem vacc_ok (bs : List Int) (k : Nat) (hk : k < 10) (hd : 0 ≤ bs.getD k 0) (hd2 : bs.getD k 0 < 128) (hm : mayB (bs.getD k 0) k = true) : vacc bs (k + 1) = vsum bs (k + 1) := by
  unfold vacc
  apply Nat.mod_eq_of_lt
  have h1 := vsum_lt bs k
  by_cases h9 : k = 9
  · subst h9
    have h3 : (128 : Nat) ^ 9 = 9223372036854775808 := by decide
    rw [vsum]
    rw [h3] at h1 ⊢
    have : bs.getD 9 0 ≤ 1 := by
      unfold mayB at hm
      split at hm
      · omega
      · simpa using hm
    omega
  · have h2 : 128 ^ (k + 1) ≤ 128 ^ 9 := Nat.pow_le_pow_right (by omega) (by omega)
    have h3 : (128 : Nat) ^ 9 = 9223372036854775808 := by decide
    have h4 := vsum_lt bs (k + 1)
    omega

theorem vtake_ok {bs : List Int} {k : Nat} (hj : ∀ j, j < k → 128 ≤ bs.getD j 0) (h1 : k < bs.length) (h2 : k < 10) (h3 : bs.getD k 0 < 128) (hm : mayB (bs.getD k 0) k = true) : vtake bs = (vsum bs (k + 1), k + 1, 0) := by
  unfold vtake; rw [vend_some hj h1 h2 h3]; simp only [hm, if_true]
theorem vtake_form {bs : List Int} {k : Nat} (hj : ∀ j, j < k → 128 ≤ bs.getD j 0) (h1 : k < bs.length) (h2 : k < 10) (h3 : bs.getD k 0 < 128) (hm : mayB (bs.getD k 0) k = false) : vtake bs = (0, 0, 2) := by
  unfold vtake; rw [vend_some hj h1 h2 h3]; simp only [hm, Bool.false_eq_true, if_false]
theorem vtake_short {bs : List Int} {k : Nat} (hj : ∀ j, j < k → 128 ≤ bs.getD j 0) (h1 : ¬ (k < bs.length ∧ k < 10)) (h2 : bs.length < 10) : vtake bs = (0, 0, 3) := by
  unfold vtake; rw [vend_none hj h1]; simp only [h2, if_true]
theorem vtake_long {bs : List Int} {k : Nat} (hj : ∀ j, j < k → 128 ≤ bs.getD j 0) (h1 : ¬ (k < bs.length ∧ k < 10)) (h2 : ¬ bs.length < 10) : vtake bs = (0, 0, 2) := by
  unfold vtake; rw [vend_none hj h1]; simp only [h2, if_false]

end Go.Proofs.Vm
