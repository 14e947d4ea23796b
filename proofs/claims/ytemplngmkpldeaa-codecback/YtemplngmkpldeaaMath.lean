/- Plain mathematics of numbers by digits of seven bits. -/
namespace Go.Proofs.Vm

/-- The digits of a number, lowest first; beside each whether it is the last one. -/
def vdig (n : Nat) : List (Int × Bool) :=
  if n < 128 then [((n : Int) % 128, true)] else ((n : Int) % 128, false) :: vdig (n / 128)
termination_by n
decreasing_by omega

/-- A number as bytes. -/
def vput (n : Nat) : List Int :=
  if n < 128 then [(n : Int)] else ((n % 128 + 128 : Nat) : Int) :: vput (n / 128)
termination_by n
decreasing_by omega

/-- What is appended for a digit. -/
def vbyte (p : Int × Bool) : Int := if p.2 then p.1 else p.1 + 128

theorem vdig_lt {n : Nat} (h : n < 128) : vdig n = [((n : Int) % 128, true)] := by rw [vdig, if_pos h]
theorem vdig_ge {n : Nat} (h : ¬ n < 128) : vdig n = ((n : Int) % 128, false) :: vdig (n / 128) := by rw [vdig, if_neg h]
theorem vput_lt {n : Nat} (h : n < 128) : vput n = [(n : Int)] := by rw [vput, if_pos h]
theorem vput_ge {n : Nat} (h : ¬ n < 128) : vput n = ((n % 128 + 128 : Nat) : Int) :: vput (n / 128) := by rw [vput, if_neg h]

theorem vput_map (n : Nat) : (vdig n).map vbyte = vput n := by
  induction n using Nat.strongRecOn with
  | _ n ih =>
    by_cases h : n < 128
    · rw [vdig_lt h, vput_lt h]; simp [vbyte]; omega
    · rw [vdig_ge h, vput_ge h, List.map_cons, ih (n / 128) (by omega)]; simp [vbyte]

theorem vdig_len (n : Nat) : (vdig n).length = (vput n).length := by rw [← vput_map, List.length_map]

theorem vput_len_pos (n : Nat) : 0 < (vput n).length := by
  by_cases h : n < 128
  · rw [vput_lt h]; simp
  · rw [vput_ge h]; simp

/-- fewer than 128^k: at most k bytes -/
theorem vput_len_le (k : Nat) : ∀ n, n < 128 ^ (k + 1) → (vput n).length ≤ k + 1 := by
  induction k with
  | zero => intro n h; rw [vput_lt (by omega)]; simp
  | succ k ih =>
    intro n h
    by_cases h0 : n < 128
    · rw [vput_lt h0]; simp
    · rw [vput_ge h0]
      have := ih (n / 128) (by
        rw [Nat.div_lt_iff_lt_mul (by omega)]
        rw [Nat.pow_succ] at h; exact h)
      simp only [List.length_cons]; omega

theorem vput_len10 (n : Nat) (h : n < 2 ^ 64) : (vput n).length ≤ 10 := vput_len_le 9 n (by
  have : (2 : Nat) ^ 64 ≤ 128 ^ (9 + 1) := by decide
  omega)

theorem vput_len_iff (k : Nat) : ∀ n, (vput n).length ≤ k + 1 ↔ n < 128 ^ (k + 1) := by
  induction k with
  | zero =>
    intro n
    by_cases h : n < 128
    · rw [vput_lt h]; simpa using h
    · rw [vput_ge h]
      have := vput_len_pos (n / 128)
      simp only [List.length_cons]
      constructor
      · intro; omega
      · intro h'; exact absurd (by simpa using h') h
  | succ k ih =>
    intro n
    by_cases h : n < 128
    · rw [vput_lt h]
      have h1 : 128 ^ 1 ≤ 128 ^ (k + 1 + 1) := Nat.pow_le_pow_right (by omega) (by omega)
      simp only [List.length_cons, List.length_nil]
      constructor
      · intro; omega
      · intro; omega
    · rw [vput_ge h]
      have := ih (n / 128)
      rw [Nat.div_lt_iff_lt_mul (by omega), ← Nat.pow_succ] at this
      rw [← this]
      simp only [List.length_cons]; omega

theorem vput_len_mono (m n : Nat) (h : m ≤ n) : (vput m).length ≤ (vput n).length := by
  obtain ⟨k, hk⟩ : ∃ k, (vput n).length = k + 1 := ⟨(vput n).length - 1, by have := vput_len_pos n; omega⟩
  have h1 := (vput_len_iff k n).1 (by omega)
  have h2 := (vput_len_iff k m).2 (by omega)
  omega

/-- Each byte bears seven bits of the number; all but the last one are 128 or more. -/
theorem vput_byte (n : Nat) : ∀ i, i < (vput n).length → (vput n).getD i 0 = ((n / 128 ^ i % 128 : Nat) : Int) + (if i + 1 < (vput n).length then 128 else 0) := by
  induction n using Nat.strongRecOn with
  | _ n ih =>
    intro i hi
    by_cases h : n < 128
    · rw [vput_lt h] at hi ⊢
      simp only [List.length_cons, List.length_nil] at hi ⊢
      obtain rfl : i = 0 := by omega
      simp; omega
    · rw [vput_ge h] at hi ⊢
      simp only [List.length_cons] at hi ⊢
      have hp := vput_len_pos (n / 128)
      cases i with
      | zero => simp [hp]
      | succ i =>
        have := ih (n / 128) (by omega) i (by omega)
        rw [List.getD_cons_succ, this, Nat.div_div_eq_div_mul, Nat.pow_succ, Nat.mul_comm 128]
        simp only [Nat.add_lt_add_iff_right]

/-- Behind all bytes nothing is left. -/
theorem vput_left (n : Nat) : n / 128 ^ (vput n).length = 0 := by
  obtain ⟨k, hk⟩ : ∃ k, (vput n).length = k + 1 := ⟨(vput n).length - 1, by have := vput_len_pos n; omega⟩
  have h1 := (vput_len_iff k n).1 (by omega)
  rw [hk]
  exact Nat.div_eq_of_lt h1

theorem vput_bounds (n : Nat) : ∀ x ∈ vput n, 0 ≤ x ∧ x ≤ 255 := by
  induction n using Nat.strongRecOn with
  | _ n ih =>
    by_cases h : n < 128
    · rw [vput_lt h]; intro x hx; simp at hx; omega
    · rw [vput_ge h]; intro x hx
      rcases List.mem_cons.1 hx with rfl | hx
      · omega
      · exact ih (n / 128) (by omega) x hx

/-! ### What bytes begin with -/

/-- A byte that may be the last one, at place i. -/
def mayB (d : Int) (i : Nat) : Bool := if d = 0 then decide (i = 0) else decide (i < 9) || decide (d ≤ 1)

/-- What the first i bytes bear, all together. -/
def vsum (bs : List Int) : Nat → Nat
  | 0 => 0
  | i + 1 => vsum bs i + (bs.getD i 0).toNat % 128 * 128 ^ i
/-- .. as 64 bits. -/
def vacc (bs : List Int) (i : Nat) : Nat := vsum bs i % 18446744073709551616

/-- The place of the first byte below 128, among the first ten. -/
def vend (bs : List Int) : Option Nat := (List.range (min bs.length 10)).find? fun j => decide (bs.getD j 0 < 128)

/-- What varint.Take tells. -/
def vtake (bs : List Int) : Nat × Nat × Nat :=
  match vend bs with
  | some i => if mayB (bs.getD i 0) i then (vsum bs (i + 1), i + 1, 0) else (0, 0, 2)
  | none => if bs.length < 10 then (0, 0, 3) else (0, 0, 2)

theorem vend_some {bs : List Int} {k : Nat} (hj : ∀ j, j < k → 128 ≤ bs.getD j 0) (h1 : k < bs.length) (h2 : k < 10) (h3 : bs.getD k 0 < 128) : vend bs = some k := by
  unfold vend
  rw [List.find?_range_eq_some]
  refine ⟨by simpa using h3, by simp; omega, fun j h => ?_⟩
  have := hj j h
  simp only [Bool.not_eq_true', decide_eq_false_iff_not]; omega

theorem vend_none {bs : List Int} {k : Nat} (hj : ∀ j, j < k → 128 ≤ bs.getD j 0) (h1 : ¬ (k < bs.length ∧ k < 10)) : vend bs = none := by
  unfold vend
  rw [List.find?_range_eq_none]
  intro j h
  have := hj j (by omega)
  simp only [Bool.not_eq_true', decide_eq_false_iff_not]; omega

theorem vsum_lt (bs : List Int) : ∀ i, vsum bs i < 128 ^ i
  | 0 => by simp [vsum]
  | i + 1 => by
    have := vsum_lt bs i
    have h : (bs.getD i 0).toNat % 128 * 128 ^ i ≤ 127 * 128 ^ i := Nat.mul_le_mul_right _ (by omega)
    simp only [vsum, Nat.pow_succ]; omega

theorem pow128 (k : Nat) : 128 ^ k = 2 ^ (7 * k) := by rw [Nat.pow_mul]

theorem or_step (k a x : Nat) (hk : k < 10) (ha : a < 2 ^ (7 * k)) : (a ||| (x * 2 ^ (7 * k) % 18446744073709551616)) = (a + x * 2 ^ (7 * k)) % 18446744073709551616 := by
  have e : (18446744073709551616 : Nat) = 2 ^ (64 - 7 * k) * 2 ^ (7 * k) := by rw [← Nat.pow_add]; rw [show 64 - 7 * k + 7 * k = 64 by omega]
  rw [e, Nat.mul_mod_mul_right, Nat.or_comm, Nat.mul_comm (x % _), ← Nat.two_pow_add_eq_or_of_lt ha]
  have hp : 0 < 2 ^ (7 * k) := Nat.pow_pos (by omega)
  have hq : 0 < 2 ^ (64 - 7 * k) := Nat.pow_pos (by omega)
  have hm : x % 2 ^ (64 - 7 * k) < 2 ^ (64 - 7 * k) := Nat.mod_lt _ hq
  have h1 : 2 ^ (7 * k) * (x % 2 ^ (64 - 7 * k)) + a < 2 ^ (64 - 7 * k) * 2 ^ (7 * k) := by
    calc 2 ^ (7 * k) * (x % 2 ^ (64 - 7 * k)) + a < 2 ^ (7 * k) * (x % 2 ^ (64 - 7 * k)) + 2 ^ (7 * k) := by omega
      _ = 2 ^ (7 * k) * (x % 2 ^ (64 - 7 * k) + 1) := by rw [Nat.mul_add, Nat.mul_one]
      _ ≤ 2 ^ (7 * k) * 2 ^ (64 - 7 * k) := Nat.mul_le_mul_left _ hm
      _ = _ := Nat.mul_comm _ _
  rw [← Nat.mod_eq_of_lt h1]
  have h2 : a + x * 2 ^ (7 * k) = 2 ^ (7 * k) * (x % 2 ^ (64 - 7 * k)) + a + 2 ^ (64 - 7 * k) * 2 ^ (7 * k) * (x / 2 ^ (64 - 7 * k)) := by
    have := Nat.mod_add_div x (2 ^ (64 - 7 * k))
    calc a + x * 2 ^ (7 * k) = a + (x % 2 ^ (64 - 7 * k) + 2 ^ (64 - 7 * k) * (x / 2 ^ (64 - 7 * k))) * 2 ^ (7 * k) := by rw [this]
      _ = _ := by rw [Nat.add_mul, Nat.mul_comm (x % _), Nat.mul_right_comm]; omega
  rw [h2, Nat.add_mul_mod_self_left]

theorem vacc_step (bs : List Int) (k : Nat) (hk : k < 10) : (vacc bs k ||| ((bs.getD k 0).toNat % 128 * 2 ^ (7 * k) % 18446744073709551616)) = vacc bs (k + 1) := by
  have h1 := vsum_lt bs k
  have h2 : 128 ^ k ≤ 128 ^ 9 := Nat.pow_le_pow_right (by omega) (by omega)
  have h3 : (128 : Nat) ^ 9 = 9223372036854775808 := by decide
  unfold vacc
  rw [Nat.mod_eq_of_lt (by omega), or_step k _ _ hk (by rw [← pow128]; exact h1), vsum, pow128]

theorem vacc_ok (bs : List Int) (k : Nat) (hk : k < 10) (hd : 0 ≤ bs.getD k 0) (hd2 : bs.getD k 0 < 128) (hm : mayB (bs.getD k 0) k = true) : vacc bs (k + 1) = vsum bs (k + 1) := by
  unfold vacc
  apply Nat.mod_eq_of_lt
  have h1 := vsum_lt bs k
  by_cases h9 : k = 9
  · subst h9
    have h3 : (128 : Nat) ^ 9 = 9223372036854775808 := by decide
    rw [vsum]
    rw [h3] at h1 ⊢
    have : bs.getD 9 0 ≤ 1 := by
      unfold mayB at hm
      split at hm
      · omega
      · simpa using hm
    omega
  · have h2 : 128 ^ (k + 1) ≤ 128 ^ 9 := Nat.pow_le_pow_right (by omega) (by omega)
    have h3 : (128 : Nat) ^ 9 = 9223372036854775808 := by decide
    have h4 := vsum_lt bs (k + 1)
    omega

theorem vtake_ok {bs : List Int} {k : Nat} (hj : ∀ j, j < k → 128 ≤ bs.getD j 0) (h1 : k < bs.length) (h2 : k < 10) (h3 : bs.getD k 0 < 128) (hm : mayB (bs.getD k 0) k = true) : vtake bs = (vsum bs (k + 1), k + 1, 0) := by
  unfold vtake; rw [vend_some hj h1 h2 h3]; simp only [hm, if_true]
theorem vtake_form {bs : List Int} {k : Nat} (hj : ∀ j, j < k → 128 ≤ bs.getD j 0) (h1 : k < bs.length) (h2 : k < 10) (h3 : bs.getD k 0 < 128) (hm : mayB (bs.getD k 0) k = false) : vtake bs = (0, 0, 2) := by
  unfold vtake; rw [vend_some hj h1 h2 h3]; simp only [hm, Bool.false_eq_true, if_false]
theorem vtake_short {bs : List Int} {k : Nat} (hj : ∀ j, j < k → 128 ≤ bs.getD j 0) (h1 : ¬ (k < bs.length ∧ k < 10)) (h2 : bs.length < 10) : vtake bs = (0, 0, 3) := by
  unfold vtake; rw [vend_none hj h1]; simp only [h2, if_true]
theorem vtake_long {bs : List Int} {k : Nat} (hj : ∀ j, j < k → 128 ≤ bs.getD j 0) (h1 : ¬ (k < bs.length ∧ k < 10)) (h2 : ¬ bs.length < 10) : vtake bs = (0, 0, 2) := by
  unfold vtake; rw [vend_none hj h1]; simp only [h2, if_false]

/-! ### There and back -/

theorem getD_left {xs ys : List Int} {j : Nat} (h : j < xs.length) : (xs ++ ys).getD j 0 = xs.getD j 0 := by
  rw [List.getD_eq_getElem?_getD, List.getD_eq_getElem?_getD, List.getElem?_append_left h]

theorem vput_getD_ge {n j : Nat} (h : j + 1 < (vput n).length) : 128 ≤ (vput n).getD j 0 := by
  rw [vput_byte n j (by omega), if_pos h]; omega

theorem vsum_put (n : Nat) (more : List Int) : ∀ i, i ≤ (vput n).length → vsum (vput n ++ more) i = n % 128 ^ i
  | 0, _ => by simp [vsum, Nat.mod_one]
  | i + 1, h => by
    rw [vsum, vsum_put n more i (by omega), getD_left (by omega), vput_byte n i (by omega), Nat.pow_succ, Nat.mod_mul]
    have : (((n / 128 ^ i % 128 : Nat) : Int) + if i + 1 < (vput n).length then 128 else 0).toNat % 128 = n / 128 ^ i % 128 := by
      split <;> omega
    rw [this, Nat.mul_comm]

theorem vput_last (n : Nat) (hn : n < 2 ^ 64) : mayB ((vput n).getD ((vput n).length - 1) 0) ((vput n).length - 1) = true ∧ (vput n).getD ((vput n).length - 1) 0 < 128 := by
  have hp := vput_len_pos n
  have h10 := vput_len10 n hn
  obtain ⟨k, hk⟩ : ∃ k, (vput n).length = k + 1 := ⟨(vput n).length - 1, by omega⟩
  have hb := vput_byte n k (by omega)
  rw [if_neg (by omega)] at hb
  have hlt := (vput_len_iff k n).1 (by omega)
  have hq : n / 128 ^ k < 128 := by
    rw [Nat.div_lt_iff_lt_mul (Nat.pow_pos (by omega)), Nat.mul_comm, ← Nat.pow_succ]
    exact hlt
  rw [hk, show k + 1 - 1 = k by omega, hb]
  refine ⟨?_, by omega⟩
  unfold mayB
  by_cases h0 : n / 128 ^ k = 0
  · have hk0 : k = 0 := by
      rcases Nat.eq_zero_or_pos k with h | h
      · exact h
      · obtain ⟨m, rfl⟩ : ∃ m, k = m + 1 := ⟨k - 1, by omega⟩
        have h1 : n < 128 ^ (m + 1) := by
          rcases Nat.lt_or_ge n (128 ^ (m + 1)) with h | h
          · exact h
          · have := Nat.div_pos h (Nat.pow_pos (by omega)); omega
        have := (vput_len_iff m n).2 h1
        omega
    simp [hk0]
  · have h1 : ((n / 128 ^ k % 128 : Nat) : Int) + 0 ≠ 0 := by rw [Nat.mod_eq_of_lt hq]; omega
    rw [if_neg h1]
    simp only [Bool.or_eq_true, decide_eq_true_eq]
    by_cases h9 : k < 9
    · exact .inl h9
    · right
      obtain rfl : k = 9 := by omega
      have e9 : (128 : Nat) ^ 9 = 9223372036854775808 := by decide
      rw [e9]
      have : n / 9223372036854775808 < 2 := by omega
      omega

/-- A number's bytes, whatever stands behind, are taken as that number. -/
theorem vtake_put (n : Nat) (hn : n < 2 ^ 64) (more : List Int) : vtake (vput n ++ more) = (n, (vput n).length, 0) := by
  have hp := vput_len_pos n
  have h10 := vput_len10 n hn
  obtain ⟨h1, h2⟩ := vput_last n hn
  obtain ⟨k, hk⟩ : ∃ k, (vput n).length = k + 1 := ⟨(vput n).length - 1, by omega⟩
  rw [hk, show k + 1 - 1 = k by omega] at h1 h2
  rw [vtake_ok (k := k) (fun j hj => by rw [getD_left (by omega)]; exact vput_getD_ge (by omega)) (by simp; omega) (by omega) (by rw [getD_left (by omega)]; exact h2) (by rw [getD_left (by omega)]; exact h1),
    vsum_put n more (k + 1) (by omega), Nat.mod_eq_of_lt ((vput_len_iff k n).1 (by omega)), hk]

/-- Cut off they are too short. -/
theorem vtake_cut (n : Nat) (hn : n < 2 ^ 64) (k : Nat) (h : k < (vput n).length) : vtake ((vput n).take k) = (0, 0, 3) := by
  have h10 := vput_len10 n hn
  have hl : ((vput n).take k).length = k := by simp; omega
  refine vtake_short (k := k) (fun j hj => ?_) (by omega) (by omega)
  rw [List.getD_eq_getElem?_getD, List.getElem?_take_of_lt hj, ← List.getD_eq_getElem?_getD]
  exact vput_getD_ge (by omega)

theorem vput_inj {m n : Nat} (hm : m < 2 ^ 64) (hn : n < 2 ^ 64) (h : vput m = vput n) : m = n := by
  have h1 := vtake_put m hm []
  have h2 := vtake_put n hn []
  rw [h, h2] at h1
  simpa using (congrArg Prod.fst h1).symm

theorem vsum_cons (x : Int) (xs : List Int) : ∀ i, vsum (x :: xs) (i + 1) = x.toNat % 128 + 128 * vsum xs i
  | 0 => by simp [vsum]
  | i + 1 => by
    rw [vsum, vsum_cons x xs i, vsum, List.getD_cons_succ, Nat.pow_succ, Nat.mul_add, Nat.add_assoc]
    congr 2
    rw [Nat.mul_comm (128 ^ i) 128, Nat.mul_left_comm]

/-- Bytes of which just the last one is below 128 are what their number is put as. -/
theorem vput_vsum : ∀ (i : Nat) (xs : List Int), i < xs.length → (∀ x ∈ xs, 0 ≤ x ∧ x ≤ 255) → (∀ j, j < i → 128 ≤ xs.getD j 0) → xs.getD i 0 < 128 → (i = 0 ∨ xs.getD i 0 ≠ 0) → vput (vsum xs (i + 1)) = xs.take (i + 1)
  | _, [], h, _, _, _, _ => absurd h (by simp)
  | 0, x :: xs, _, hb, _, hd, _ => by
    have hx := hb x (by simp)
    rw [vsum_cons]
    simp only [List.getD_cons_zero] at hd
    rw [show vsum xs 0 = 0 from rfl, Nat.mul_zero, Nat.add_zero, Nat.mod_eq_of_lt (by omega), vput_lt (by omega)]
    simp; omega
  | i + 1, x :: xs, h, hb, hj, hd, hl => by
    have hx := hb x (by simp)
    have h0 := hj 0 (by omega)
    simp only [List.getD_cons_zero] at h0
    simp only [List.getD_cons_succ] at hd hl
    have hl' : xs.getD i 0 ≠ 0 := by rcases hl with hl | hl; · omega
                                     · exact hl
    have hi : i < xs.length := by simpa using h
    have hdi : 0 ≤ xs.getD i 0 := by
      rw [List.getD_eq_getElem?_getD, List.getElem?_eq_getElem hi]
      exact (hb _ (List.mem_cons_of_mem _ (List.getElem_mem hi))).1
    have ih := vput_vsum i xs hi (fun y hy => hb y (List.mem_cons_of_mem _ hy)) (fun j hj' => by have := hj (j + 1) (by omega); simpa using this) hd (.inr hl')
    have hpos : 0 < vsum xs (i + 1) := by
      rw [vsum, Nat.mod_eq_of_lt (by omega)]
      have : 0 < (xs.getD i 0).toNat * 128 ^ i := Nat.mul_pos (by omega) (Nat.pow_pos (by omega))
      omega
    rw [vsum_cons, vput_ge (by omega), show (x.toNat % 128 + 128 * vsum xs (i + 1)) / 128 = vsum xs (i + 1) by omega, ih, List.take_succ_cons]
    congr 1
    omega

/-- What is taken: an error and nothing; or a number whose only form the bytes are. -/
theorem vtake_cases (bs : List Int) (hb : ∀ x ∈ bs, 0 ≤ x ∧ x ≤ 255) : vtake bs = (0, 0, 2) ∨ vtake bs = (0, 0, 3) ∨ ∃ a k, vtake bs = (a, k, 0) ∧ a < 2 ^ 64 ∧ k ≤ bs.length ∧ vput a = bs.take k := by
  unfold vtake
  cases hv : vend bs with
  | none =>
    dsimp only
    split
    · exact .inr (.inl rfl)
    · exact .inl rfl
  | some i =>
    dsimp only
    unfold vend at hv
    rw [List.find?_range_eq_some] at hv
    obtain ⟨h1, h2, h3⟩ := hv
    simp only [decide_eq_true_eq] at h1
    simp only [List.mem_range] at h2
    have hil : i < bs.length := by omega
    have hd0 : 0 ≤ bs.getD i 0 := by
      rw [List.getD_eq_getElem?_getD, List.getElem?_eq_getElem hil]
      exact (hb _ (List.getElem_mem hil)).1
    by_cases hm : mayB (bs.getD i 0) i = true
    · rw [if_pos hm]
      refine .inr (.inr ⟨_, _, rfl, ?_, by omega, ?_⟩)
      · have := vacc_ok bs i (by omega) hd0 h1 hm
        rw [← this]
        exact Nat.mod_lt _ (by omega)
      · refine vput_vsum i bs hil hb (fun j hj => ?_) h1 ?_
        · have := h3 j hj
          simp only [Bool.not_eq_true', decide_eq_false_iff_not] at this
          omega
        · unfold mayB at hm
          split at hm
          · exact .inl (by simpa using hm)
          · exact .inr (by assumption)
    · rw [if_neg hm]
      exact .inl rfl

theorem vsum_more (bs : List Int) (j : Nat) : ∀ m, ∃ r, vsum bs (j + m) = vsum bs j + 128 ^ j * r
  | 0 => ⟨0, by simp⟩
  | m + 1 => by
    obtain ⟨r, hr⟩ := vsum_more bs j m
    refine ⟨r + (bs.getD (j + m) 0).toNat % 128 * 128 ^ m, ?_⟩
    rw [show j + (m + 1) = (j + m) + 1 by omega, vsum, hr, Nat.mul_add, Nat.pow_add, Nat.add_assoc]
    congr 2
    rw [Nat.mul_left_comm]

/-- The digits of what bytes bear. -/
theorem vsum_digit (bs : List Int) {i j : Nat} (h : j ≤ i) : vsum bs (i + 1) / 128 ^ j % 128 = (bs.getD j 0).toNat % 128 := by
  obtain ⟨r, hr⟩ := vsum_more bs (j + 1) (i - j)
  rw [show j + 1 + (i - j) = i + 1 by omega] at hr
  have hj : vsum bs (j + 1) = vsum bs j + (bs.getD j 0).toNat % 128 * 128 ^ j := rfl
  have hlt := vsum_lt bs j
  have hp : 0 < 128 ^ j := Nat.pow_pos (by omega)
  have e : vsum bs (i + 1) = vsum bs j + 128 ^ j * ((bs.getD j 0).toNat % 128 + 128 * r) := by
    rw [hr, hj, Nat.mul_add, Nat.pow_succ, Nat.mul_comm ((bs.getD j 0).toNat % 128), Nat.mul_assoc, Nat.add_assoc]
  rw [e, Nat.add_mul_div_left _ _ hp, Nat.div_eq_of_lt hlt]
  omega

theorem vsum_step (bs : List Int) {i j : Nat} (h : j ≤ i) : 128 * (vsum bs (i + 1) / 128 ^ (j + 1)) + (bs.getD j 0).toNat % 128 = vsum bs (i + 1) / 128 ^ j := by
  rw [← vsum_digit bs h, Nat.pow_succ, ← Nat.div_div_eq_div_mul]
  omega

theorem vsum_top (bs : List Int) (i : Nat) : vsum bs (i + 1) / 128 ^ (i + 1) = 0 := Nat.div_eq_of_lt (vsum_lt bs (i + 1))

end Go.Proofs.Vm
