/- Plain mathematics of numbers by digits of seven bits. · Numbers of eight bytes, texts, and what a reader tells: plain mathematics. · Plain mathematics of records: numbers that are read one behind the other; what is read is its only form, and cut off it is too short. -/
import Derived.Test.YtmdknedngiggdaaJ10
section
/- Plain mathematics of numbers by digits of seven bits. -/
namespace Go.Proofs.Vm

/-- The digits of a number, lowest first; beside each whether it is the last one. -/
def vdig (n : Nat) : List (Int × Bool) :=
  if n < 128 then [((n : Int) % 128, true)] else ((n : Int) % 128, false) :: vdig (n / 128)
termination_by n
decreasing_by omega

/-- A number as bytes. -/
def vput (n : Nat) : List Int :=
  if n < 128 then [(n : Int)] else ((n % 128 + 128 : Nat) : Int) :: vput (n / 128)
termination_by n
decreasing_by omega

/-- What is appended for a digit. -/
def vbyte (p : Int × Bool) : Int := if p.2 then p.1 else p.1 + 128

theorem vdig_lt {n : Nat} (h : n < 128) : vdig n = [((n : Int) % 128, true)] := by rw [vdig, if_pos h]
theorem vdig_ge {n : Nat} (h : ¬ n < 128) : vdig n = ((n : Int) % 128, false) :: vdig (n / 128) := by rw [vdig, if_neg h]
theorem vput_lt {n : Nat} (h : n < 128) : vput n = [(n : Int)] := by rw [vput, if_pos h]
theorem vput_ge {n : Nat} (h : ¬ n < 128) : vput n = ((n % 128 + 128 : Nat) : Int) :: vput (n / 128) := by rw [vput, if_neg h]

theorem vput_map (n : Nat) : (vdig n).map vbyte = vput n := by
  induction n using Nat.strongRecOn with
  | _ n ih =>
    by_cases h : n < 128
    · rw [vdig_lt h, vput_lt h]; simp [vbyte]; omega
    · rw [vdig_ge h, vput_ge h, List.map_cons, ih (n / 128) (by omega)]; simp [vbyte]

theorem vdig_len (n : Nat) : (vdig n).length = (vput n).length := by rw [← vput_map, List.length_map]

theorem vput_len_pos (n : Nat) : 0 < (vput n).length := by
  by_cases h : n < 128
  · rw [vput_lt h]; simp
  · rw [vput_ge h]; simp

/-- fewer than 128^k: at most k bytes -/
theorem vput_len_le (k : Nat) : ∀ n, n < 128 ^ (k + 1) → (vput n).length ≤ k + 1 := by
  induction k with
  | zero => intro n h; rw [vput_lt (by omega)]; simp
  | succ k ih =>
    intro n h
    by_cases h0 : n < 128
    · rw [vput_lt h0]; simp
    · rw [vput_ge h0]
      have := ih (n / 128) (by
        rw [Nat.div_lt_iff_lt_mul (by omega)]
        rw [Nat.pow_succ] at h; exact h)
      simp only [List.length_cons]; omega

theorem vput_len10 (n : Nat) (h : n < 2 ^ 64) : (vput n).length ≤ 10 := vput_len_le 9 n (by
  have : (2 : Nat) ^ 64 ≤ 128 ^ (9 + 1) := by decide
  omega)

theorem vput_len_iff (k : Nat) : ∀ n, (vput n).length ≤ k + 1 ↔ n < 128 ^ (k + 1) := by
  induction k with
  | zero =>
    intro n
    by_cases h : n < 128
    · rw [vput_lt h]; simpa using h
    · rw [vput_ge h]
      have := vput_len_pos (n / 128)
      simp only [List.length_cons]
      constructor
      · intro; omega
      · intro h'; exact absurd (by simpa using h') h
  | succ k ih =>
    intro n
    by_cases h : n < 128
    · rw [vput_lt h]
      have h1 : 128 ^ 1 ≤ 128 ^ (k + 1 + 1) := Nat.pow_le_pow_right (by omega) (by omega)
      simp only [List.length_cons, List.length_nil]
      constructor
      · intro; omega
      · intro; omega
    · rw [vput_ge h]
      have := ih (n / 128)
      rw [Nat.div_lt_iff_lt_mul (by omega), ← Nat.pow_succ] at this
      rw [← this]
      simp only [List.length_cons]; omega

theorem vput_len_mono (m n : Nat) (h : m ≤ n) : (vput m).length ≤ (vput n).length := by
  obtain ⟨k, hk⟩ : ∃ k, (vput n).length = k + 1 := ⟨(vput n).length - 1, by have := vput_len_pos n; omega⟩
  have h1 := (vput_len_iff k n).1 (by omega)
  have h2 := (vput_len_iff k m).2 (by omega)
  omega

/-- Each byte bears seven bits of the number; all but the last one are 128 or more. -/
theorem vput_byte (n : Nat) : ∀ i, i < (vput n).length → (vput n).getD i 0 = ((n / 128 ^ i % 128 : Nat) : Int) + (if i + 1 < (vput n).length then 128 else 0) := by
  induction n using Nat.strongRecOn with
  | _ n ih =>
    intro i hi
    by_cases h : n < 128
    · rw [vput_lt h] at hi ⊢
      simp only [List.length_cons, List.length_nil] at hi ⊢
      obtain rfl : i = 0 := by omega
      simp; omega
    · rw [vput_ge h] at hi ⊢
      simp only [List.length_cons] at hi ⊢
      have hp := vput_len_pos (n / 128)
      cases i with
      | zero => simp [hp]
      | succ i =>
        have := ih (n / 128) (by omega) i (by omega)
        rw [List.getD_cons_succ, this, Nat.div_div_eq_div_mul, Nat.pow_succ, Nat.mul_comm 128]
        simp only [Nat.add_lt_add_iff_right]

/-- Behind all bytes nothing is left. -/
theorem vput_left (n : Nat) : n / 128 ^ (vput n).length = 0 := by
  obtain ⟨k, hk⟩ : ∃ k, (vput n).length = k + 1 := ⟨(vput n).length - 1, by have := vput_len_pos n; omega⟩
  have h1 := (vput_len_iff k n).1 (by omega)
  rw [hk]
  exact Nat.div_eq_of_lt h1

theorem vput_bounds (n : Nat) : ∀ x ∈ vput n, 0 ≤ x ∧ x ≤ 255 := by
  induction n using Nat.strongRecOn with
  | _ n ih =>
    by_cases h : n < 128
    · rw [vput_lt h]; intro x hx; simp at hx; omega
    · rw [vput_ge h]; intro x hx
      rcases List.mem_cons.1 hx with rfl | hx
      · omega
      · exact ih (n / 128) (by omega) x hx

/-! ### What bytes begin with -/

/-- A byte that may be the last one, at place i. -/
def mayB (d : Int) (i : Nat) : Bool := if d = 0 then decide (i = 0) else decide (i < 9) || decide (d ≤ 1)

/-- What the first i bytes bear, all together. -/
def vsum (bs : List Int) : Nat → Nat
  | 0 => 0
  | i + 1 => vsum bs i + (bs.getD i 0).toNat % 128 * 128 ^ i
/-- .. as 64 bits. -/
def vacc (bs : List Int) (i : Nat) : Nat := vsum bs i % 18446744073709551616

/-- The place of the first byte below 128, among the first ten. -/
def vend (bs : List Int) : Option Nat := (List.range (min bs.length 10)).find? fun j => decide (bs.getD j 0 < 128)

/-- What varint.Take tells. -/
def vtake (bs : List Int) : Nat × Nat × Nat :=
  match vend bs with
  | some i => if mayB (bs.getD i 0) i then (vsum bs (i + 1), i + 1, 0) else (0, 0, 2)
  | none => if bs.length < 10 then (0, 0, 3) else (0, 0, 2)

theorem vend_some {bs : List Int} {k : Nat} (hj : ∀ j, j < k → 128 ≤ bs.getD j 0) (h1 : k < bs.length) (h2 : k < 10) (h3 : bs.getD k 0 < 128) : vend bs = some k := by
  unfold vend
  rw [List.find?_range_eq_some]
  refine ⟨by simpa using h3, by simp; omega, fun j h => ?_⟩
  have := hj j h
  simp only [Bool.not_eq_true', decide_eq_false_iff_not]; omega

theorem vend_none {bs : List Int} {k : Nat} (hj : ∀ j, j < k → 128 ≤ bs.getD j 0) (h1 : ¬ (k < bs.length ∧ k < 10)) : vend bs = none := by
  unfold vend
  rw [List.find?_range_eq_none]
  intro j h
  have := hj j (by omega)
  simp only [Bool.not_eq_true', decide_eq_false_iff_not]; omega

theorem vsum_lt (bs : List Int) : ∀ i, vsum bs i < 128 ^ i
  | 0 => by simp [vsum]
  | i + 1 => by
    have := vsum_lt bs i
    have h : (bs.getD i 0).toNat % 128 * 128 ^ i ≤ 127 * 128 ^ i := Nat.mul_le_mul_right _ (by omega)
    simp only [vsum, Nat.pow_succ]; omega

theorem pow128 (k : Nat) : 128 ^ k = 2 ^ (7 * k) := by rw [Nat.pow_mul]

theorem or_step (k a x : Nat) (hk : k < 10) (ha : a < 2 ^ (7 * k)) : (a ||| (x * 2 ^ (7 * k) % 18446744073709551616)) = (a + x * 2 ^ (7 * k)) % 18446744073709551616 := by
  have e : (18446744073709551616 : Nat) = 2 ^ (64 - 7 * k) * 2 ^ (7 * k) := by rw [← Nat.pow_add]; rw [show 64 - 7 * k + 7 * k = 64 by omega]
  rw [e, Nat.mul_mod_mul_right, Nat.or_comm, Nat.mul_comm (x % _), ← Nat.two_pow_add_eq_or_of_lt ha]
  have hp : 0 < 2 ^ (7 * k) := Nat.pow_pos (by omega)
  have hq : 0 < 2 ^ (64 - 7 * k) := Nat.pow_pos (by omega)
  have hm : x % 2 ^ (64 - 7 * k) < 2 ^ (64 - 7 * k) := Nat.mod_lt _ hq
  have h1 : 2 ^ (7 * k) * (x % 2 ^ (64 - 7 * k)) + a < 2 ^ (64 - 7 * k) * 2 ^ (7 * k) := by
    calc 2 ^ (7 * k) * (x % 2 ^ (64 - 7 * k)) + a < 2 ^ (7 * k) * (x % 2 ^ (64 - 7 * k)) + 2 ^ (7 * k) := by omega
      _ = 2 ^ (7 * k) * (x % 2 ^ (64 - 7 * k) + 1) := by rw [Nat.mul_add, Nat.mul_one]
      _ ≤ 2 ^ (7 * k) * 2 ^ (64 - 7 * k) := Nat.mul_le_mul_left _ hm
      _ = _ := Nat.mul_comm _ _
  rw [← Nat.mod_eq_of_lt h1]
  have h2 : a + x * 2 ^ (7 * k) = 2 ^ (7 * k) * (x % 2 ^ (64 - 7 * k)) + a + 2 ^ (64 - 7 * k) * 2 ^ (7 * k) * (x / 2 ^ (64 - 7 * k)) := by
    have := Nat.mod_add_div x (2 ^ (64 - 7 * k))
    calc a + x * 2 ^ (7 * k) = a + (x % 2 ^ (64 - 7 * k) + 2 ^ (64 - 7 * k) * (x / 2 ^ (64 - 7 * k))) * 2 ^ (7 * k) := by rw [this]
      _ = _ := by rw [Nat.add_mul, Nat.mul_comm (x % _), Nat.mul_right_comm]; omega
  rw [h2, Nat.add_mul_mod_self_left]

theorem vacc_step (bs : List Int) (k : Nat) (hk : k < 10) : (vacc bs k ||| ((bs.getD k 0).toNat % 128 * 2 ^ (7 * k) % 18446744073709551616)) = vacc bs (k + 1) := by
  have h1 := vsum_lt bs k
  have h2 : 128 ^ k ≤ 128 ^ 9 := Nat.pow_le_pow_right (by omega) (by omega)
  have h3 : (128 : Nat) ^ 9 = 9223372036854775808 := by decide
  unfold vacc
  rw [Nat.mod_eq_of_lt (by omega), or_step k _ _ hk (by rw [← pow128]; exact h1), vsum, pow128]

theorem vacc_ok (bs : List Int) (k : Nat) (hk : k < 10) (hd : 0 ≤ bs.getD k 0) (hd2 : bs.getD k 0 < 128) (hm : mayB (bs.getD k 0) k = true) : vacc bs (k + 1) = vsum bs (k + 1) := by
  unfold vacc
  apply Nat.mod_eq_of_lt
  have h1 := vsum_lt bs k
  by_cases h9 : k = 9
  · subst h9
    have h3 : (128 : Nat) ^ 9 = 9223372036854775808 := by decide
    rw [vsum]
    rw [h3] at h1 ⊢
    have : bs.getD 9 0 ≤ 1 := by
      unfold mayB at hm
      split at hm
      · omega
      · simpa using hm
    omega
  · have h2 : 128 ^ (k + 1) ≤ 128 ^ 9 := Nat.pow_le_pow_right (by omega) (by omega)
    have h3 : (128 : Nat) ^ 9 = 9223372036854775808 := by decide
    have h4 := vsum_lt bs (k + 1)
    omega

theorem vtake_ok {bs : List Int} {k : Nat} (hj : ∀ j, j < k → 128 ≤ bs.getD j 0) (h1 : k < bs.length) (h2 : k < 10) (h3 : bs.getD k 0 < 128) (hm : mayB (bs.getD k 0) k = true) : vtake bs = (vsum bs (k + 1), k + 1, 0) := by
  unfold vtake; rw [vend_some hj h1 h2 h3]; simp only [hm, if_true]
theorem vtake_form {bs : List Int} {k : Nat} (hj : ∀ j, j < k → 128 ≤ bs.getD j 0) (h1 : k < bs.length) (h2 : k < 10) (h3 : bs.getD k 0 < 128) (hm : mayB (bs.getD k 0) k = false) : vtake bs = (0, 0, 2) := by
  unfold vtake; rw [vend_some hj h1 h2 h3]; simp only [hm, Bool.false_eq_true, if_false]
theorem vtake_short {bs : List Int} {k : Nat} (hj : ∀ j, j < k → 128 ≤ bs.getD j 0) (h1 : ¬ (k < bs.length ∧ k < 10)) (h2 : bs.length < 10) : vtake bs = (0, 0, 3) := by
  unfold vtake; rw [vend_none hj h1]; simp only [h2, if_true]
theorem vtake_long {bs : List Int} {k : Nat} (hj : ∀ j, j < k → 128 ≤ bs.getD j 0) (h1 : ¬ (k < bs.length ∧ k < 10)) (h2 : ¬ bs.length < 10) : vtake bs = (0, 0, 2) := by
  unfold vtake; rw [vend_none hj h1]; simp only [h2, if_false]

/-! ### There and back -/

theorem getD_left {xs ys : List Int} {j : Nat} (h : j < xs.length) : (xs ++ ys).getD j 0 = xs.getD j 0 := by
  rw [List.getD_eq_getElem?_getD, List.getD_eq_getElem?_getD, List.getElem?_append_left h]

theorem vput_getD_ge {n j : Nat} (h : j + 1 < (vput n).length) : 128 ≤ (vput n).getD j 0 := by
  rw [vput_byte n j (by omega), if_pos h]; omega

theorem vsum_put (n : Nat) (more : List Int) : ∀ i, i ≤ (vput n).length → vsum (vput n ++ more) i = n % 128 ^ i
  | 0, _ => by simp [vsum, Nat.mod_one]
  | i + 1, h => by
    rw [vsum, vsum_put n more i (by omega), getD_left (by omega), vput_byte n i (by omega), Nat.pow_succ, Nat.mod_mul]
    have : (((n / 128 ^ i % 128 : Nat) : Int) + if i + 1 < (vput n).length then 128 else 0).toNat % 128 = n / 128 ^ i % 128 := by
      split <;> omega
    rw [this, Nat.mul_comm]

theorem vput_last (n : Nat) (hn : n < 2 ^ 64) : mayB ((vput n).getD ((vput n).length - 1) 0) ((vput n).length - 1) = true ∧ (vput n).getD ((vput n).length - 1) 0 < 128 := by
  have hp := vput_len_pos n
  have h10 := vput_len10 n hn
  obtain ⟨k, hk⟩ : ∃ k, (vput n).length = k + 1 := ⟨(vput n).length - 1, by omega⟩
  have hb := vput_byte n k (by omega)
  rw [if_neg (by omega)] at hb
  have hlt := (vput_len_iff k n).1 (by omega)
  have hq : n / 128 ^ k < 128 := by
    rw [Nat.div_lt_iff_lt_mul (Nat.pow_pos (by omega)), Nat.mul_comm, ← Nat.pow_succ]
    exact hlt
  rw [hk, show k + 1 - 1 = k by omega, hb]
  refine ⟨?_, by omega⟩
  unfold mayB
  by_cases h0 : n / 128 ^ k = 0
  · have hk0 : k = 0 := by
      rcases Nat.eq_zero_or_pos k with h | h
      · exact h
      · obtain ⟨m, rfl⟩ : ∃ m, k = m + 1 := ⟨k - 1, by omega⟩
        have h1 : n < 128 ^ (m + 1) := by
          rcases Nat.lt_or_ge n (128 ^ (m + 1)) with h | h
          · exact h
          · have := Nat.div_pos h (Nat.pow_pos (by omega)); omega
        have := (vput_len_iff m n).2 h1
        omega
    simp [hk0]
  · have h1 : ((n / 128 ^ k % 128 : Nat) : Int) + 0 ≠ 0 := by rw [Nat.mod_eq_of_lt hq]; omega
    rw [if_neg h1]
    simp only [Bool.or_eq_true, decide_eq_true_eq]
    by_cases h9 : k < 9
    · exact .inl h9
    · right
      obtain rfl : k = 9 := by omega
      have e9 : (128 : Nat) ^ 9 = 9223372036854775808 := by decide
      rw [e9]
      have : n / 9223372036854775808 < 2 := by omega
      omega

/-- A number's bytes, whatever stands behind, are taken as that number. -/
theorem vtake_put (n : Nat) (hn : n < 2 ^ 64) (more : List Int) : vtake (vput n ++ more) = (n, (vput n).length, 0) := by
  have hp := vput_len_pos n
  have h10 := vput_len10 n hn
  obtain ⟨h1, h2⟩ := vput_last n hn
  obtain ⟨k, hk⟩ : ∃ k, (vput n).length = k + 1 := ⟨(vput n).length - 1, by omega⟩
  rw [hk, show k + 1 - 1 = k by omega] at h1 h2
  rw [vtake_ok (k := k) (fun j hj => by rw [getD_left (by omega)]; exact vput_getD_ge (by omega)) (by simp; omega) (by omega) (by rw [getD_left (by omega)]; exact h2) (by rw [getD_left (by omega)]; exact h1),
    vsum_put n more (k + 1) (by omega), Nat.mod_eq_of_lt ((vput_len_iff k n).1 (by omega)), hk]

/-- Cut off they are too short. -/
theorem vtake_cut (n : Nat) (hn : n < 2 ^ 64) (k : Nat) (h : k < (vput n).length) : vtake ((vput n).take k) = (0, 0, 3) := by
  have h10 := vput_len10 n hn
  have hl : ((vput n).take k).length = k := by simp; omega
  refine vtake_short (k := k) (fun j hj => ?_) (by omega) (by omega)
  rw [List.getD_eq_getElem?_getD, List.getElem?_take_of_lt hj, ← List.getD_eq_getElem?_getD]
  exact vput_getD_ge (by omega)

theorem vput_inj {m n : Nat} (hm : m < 2 ^ 64) (hn : n < 2 ^ 64) (h : vput m = vput n) : m = n := by
  have h1 := vtake_put m hm []
  have h2 := vtake_put n hn []
  rw [h, h2] at h1
  simpa using (congrArg Prod.fst h1).symm

theorem vsum_cons (x : Int) (xs : List Int) : ∀ i, vsum (x :: xs) (i + 1) = x.toNat % 128 + 128 * vsum xs i
  | 0 => by simp [vsum]
  | i + 1 => by
    rw [vsum, vsum_cons x xs i, vsum, List.getD_cons_succ, Nat.pow_succ, Nat.mul_add, Nat.add_assoc]
    congr 2
    rw [Nat.mul_comm (128 ^ i) 128, Nat.mul_left_comm]

/-- Bytes of which just the last one is below 128 are what their number is put as. -/
theorem vput_vsum : ∀ (i : Nat) (xs : List Int), i < xs.length → (∀ x ∈ xs, 0 ≤ x ∧ x ≤ 255) → (∀ j, j < i → 128 ≤ xs.getD j 0) → xs.getD i 0 < 128 → (i = 0 ∨ xs.getD i 0 ≠ 0) → vput (vsum xs (i + 1)) = xs.take (i + 1)
  | _, [], h, _, _, _, _ => absurd h (by simp)
  | 0, x :: xs, _, hb, _, hd, _ => by
    have hx := hb x (by simp)
    rw [vsum_cons]
    simp only [List.getD_cons_zero] at hd
    rw [show vsum xs 0 = 0 from rfl, Nat.mul_zero, Nat.add_zero, Nat.mod_eq_of_lt (by omega), vput_lt (by omega)]
    simp; omega
  | i + 1, x :: xs, h, hb, hj, hd, hl => by
    have hx := hb x (by simp)
    have h0 := hj 0 (by omega)
    simp only [List.getD_cons_zero] at h0
    simp only [List.getD_cons_succ] at hd hl
    have hl' : xs.getD i 0 ≠ 0 := by rcases hl with hl | hl; · omega
                                     · exact hl
    have hi : i < xs.length := by simpa using h
    have hdi : 0 ≤ xs.getD i 0 := by
      rw [List.getD_eq_getElem?_getD, List.getElem?_eq_getElem hi]
      exact (hb _ (List.mem_cons_of_mem _ (List.getElem_mem hi))).1
    have ih := vput_vsum i xs hi (fun y hy => hb y (List.mem_cons_of_mem _ hy)) (fun j hj' => by have := hj (j + 1) (by omega); simpa using this) hd (.inr hl')
    have hpos : 0 < vsum xs (i + 1) := by
      rw [vsum, Nat.mod_eq_of_lt (by omega)]
      have : 0 < (xs.getD i 0).toNat * 128 ^ i := Nat.mul_pos (by omega) (Nat.pow_pos (by omega))
      omega
    rw [vsum_cons, vput_ge (by omega), show (x.toNat % 128 + 128 * vsum xs (i + 1)) / 128 = vsum xs (i + 1) by omega, ih, List.take_succ_cons]
    congr 1
    omega

/-- What is taken: an error and nothing; or a number whose only form the bytes are. -/
theorem vtake_cases (bs : List Int) (hb : ∀ x ∈ bs, 0 ≤ x ∧ x ≤ 255) : vtake bs = (0, 0, 2) ∨ vtake bs = (0, 0, 3) ∨ ∃ a k, vtake bs = (a, k, 0) ∧ a < 2 ^ 64 ∧ k ≤ bs.length ∧ vput a = bs.take k := by
  unfold vtake
  cases hv : vend bs with
  | none =>
    dsimp only
    split
    · exact .inr (.inl rfl)
    · exact .inl rfl
  | some i =>
    dsimp only
    unfold vend at hv
    rw [List.find?_range_eq_some] at hv
    obtain ⟨h1, h2, h3⟩ := hv
    simp only [decide_eq_true_eq] at h1
    simp only [List.mem_range] at h2
    have hil : i < bs.length := by omega
    have hd0 : 0 ≤ bs.getD i 0 := by
      rw [List.getD_eq_getElem?_getD, List.getElem?_eq_getElem hil]
      exact (hb _ (List.getElem_mem hil)).1
    by_cases hm : mayB (bs.getD i 0) i = true
    · rw [if_pos hm]
      refine .inr (.inr ⟨_, _, rfl, ?_, by omega, ?_⟩)
      · have := vacc_ok bs i (by omega) hd0 h1 hm
        rw [← this]
        exact Nat.mod_lt _ (by omega)
      · refine vput_vsum i bs hil hb (fun j hj => ?_) h1 ?_
        · have := h3 j hj
          simp only [Bool.not_eq_true', decide_eq_false_iff_not] at this
          omega
        · unfold mayB at hm
          split at hm
          · exact .inl (by simpa using hm)
          · exact .inr (by assumption)
    · rw [if_neg hm]
      exact .inl rfl

theorem vsum_more (bs : List Int) (j : Nat) : ∀ m, ∃ r, vsum bs (j + m) = vsum bs j + 128 ^ j * r
  | 0 => ⟨0, by simp⟩
  | m + 1 => by
    obtain ⟨r, hr⟩ := vsum_more bs j m
    refine ⟨r + (bs.getD (j + m) 0).toNat % 128 * 128 ^ m, ?_⟩
    rw [show j + (m + 1) = (j + m) + 1 by omega, vsum, hr, Nat.mul_add, Nat.pow_add, Nat.add_assoc]
    congr 2
    rw [Nat.mul_left_comm]

/-- The digits of what bytes bear. -/
theorem vsum_digit (bs : List Int) {i j : Nat} (h : j ≤ i) : vsum bs (i + 1) / 128 ^ j % 128 = (bs.getD j 0).toNat % 128 := by
  obtain ⟨r, hr⟩ := vsum_more bs (j + 1) (i - j)
  rw [show j + 1 + (i - j) = i + 1 by omega] at hr
  have hj : vsum bs (j + 1) = vsum bs j + (bs.getD j 0).toNat % 128 * 128 ^ j := rfl
  have hlt := vsum_lt bs j
  have hp : 0 < 128 ^ j := Nat.pow_pos (by omega)
  have e : vsum bs (i + 1) = vsum bs j + 128 ^ j * ((bs.getD j 0).toNat % 128 + 128 * r) := by
    rw [hr, hj, Nat.mul_add, Nat.pow_succ, Nat.mul_comm ((bs.getD j 0).toNat % 128), Nat.mul_assoc, Nat.add_assoc]
  rw [e, Nat.add_mul_div_left _ _ hp, Nat.div_eq_of_lt hlt]
  omega

theorem vsum_step (bs : List Int) {i j : Nat} (h : j ≤ i) : 128 * (vsum bs (i + 1) / 128 ^ (j + 1)) + (bs.getD j 0).toNat % 128 = vsum bs (i + 1) / 128 ^ j := by
  rw [← vsum_digit bs h, Nat.pow_succ, ← Nat.div_div_eq_div_mul]
  omega

theorem vsum_top (bs : List Int) (i : Nat) : vsum bs (i + 1) / 128 ^ (i + 1) = 0 := Nat.div_eq_of_lt (vsum_lt bs (i + 1))

end Go.Proofs.Vm
end
section
/- Numbers of eight bytes, texts, and what a reader tells: plain mathematics. -/
namespace Go.Proofs.Vm

/-- Byte i of a number of eight bytes, the highest first. -/
def fixB (n : Nat) (i : Nat) : Int := ((n / 256 ^ (7 - i) % 256 : Nat) : Int)
def vfix (n : Nat) : List Int := (List.range 8).map (fixB n)
def vtext (t : List Int) : List Int := vput t.length ++ t

/-- The number of the first k bytes, the highest first. -/
def ufix (bs : List Int) : Nat → Nat
  | 0 => 0
  | k + 1 => 256 * ufix bs k + (bs.getD k 0).toNat

theorem vfix_len (n : Nat) : (vfix n).length = 8 := by simp [vfix]
theorem vfix_getD (n : Nat) {i : Nat} (h : i < 8) : (vfix n).getD i 0 = fixB n i := by simp [vfix, List.getD_eq_getElem?_getD, h]
theorem fixB_bounds (n i : Nat) : 0 ≤ fixB n i ∧ fixB n i ≤ 255 := by unfold fixB; omega
theorem vfix_bounds (n : Nat) : ∀ x ∈ vfix n, 0 ≤ x ∧ x ≤ 255 := by
  intro x hx
  obtain ⟨i, _, rfl⟩ := List.mem_map.1 hx
  exact fixB_bounds n i
theorem vtext_bounds {t : List Int} (h : ∀ x ∈ t, 0 ≤ x ∧ x ≤ 255) : ∀ x ∈ vtext t, 0 ≤ x ∧ x ≤ 255 := fun x hx => (List.mem_append.1 hx).elim (vput_bounds _ x) (h x)
theorem vtext_len (t : List Int) : (vtext t).length = (vput t.length).length + t.length := by simp [vtext]

theorem getD_bounds {bs : List Int} (hb : ∀ x ∈ bs, 0 ≤ x ∧ x ≤ 255) (k : Nat) : 0 ≤ bs.getD k 0 ∧ bs.getD k 0 ≤ 255 := by
  rw [List.getD_eq_getElem?_getD]
  by_cases h : k < bs.length
  · rw [List.getElem?_eq_getElem h]; exact hb _ (List.getElem_mem h)
  · rw [List.getElem?_eq_none (by omega)]; simp

theorem ufix_lt {bs : List Int} (hb : ∀ x ∈ bs, 0 ≤ x ∧ x ≤ 255) : ∀ k, ufix bs k < 256 ^ k
  | 0 => by simp [ufix]
  | k + 1 => by
    have := ufix_lt hb k
    have h := getD_bounds hb k
    simp only [ufix, Nat.pow_succ]; omega

theorem ufix_fix (n : Nat) (hn : n < 18446744073709551616) (more : List Int) : ∀ k, k ≤ 8 → ufix (vfix n ++ more) k = n / 256 ^ (8 - k)
  | 0, _ => by
    have : (256 : Nat) ^ (8 - 0) = 18446744073709551616 := by decide
    rw [this, Nat.div_eq_of_lt hn]; rfl
  | k + 1, h => by
    rw [ufix, ufix_fix n hn more k (by omega), getD_left (by rw [vfix_len]; omega), vfix_getD n (by omega)]
    unfold fixB
    rw [Int.toNat_natCast, show 8 - k = (7 - k) + 1 by omega, show 8 - (k + 1) = 7 - k by omega, Nat.pow_succ, ← Nat.div_div_eq_div_mul]
    omega

theorem ufix_back (n : Nat) (hn : n < 18446744073709551616) (more : List Int) : ufix (vfix n ++ more) 8 = n := by
  rw [ufix_fix n hn more 8 (by omega)]; simp

/-! ### A reader: the bytes that are left, and what was wrong -/

/-- The next number, of how many bytes it is, and what is wrong. -/
def rnum (bs : List Int) (e : Int) (most : Nat) : Nat × Nat × Int :=
  if e ≠ 0 then (0, 0, e) else
  if (vtake bs).2.2 ≠ 0 then (0, 0, ((vtake bs).2.2 : Int)) else
  if most < (vtake bs).1 then (0, 0, 2) else ((vtake bs).1, (vtake bs).2.1, 0)

def rNum (bs : List Int) (e : Int) (most : Nat) : List Int × Int × Nat :=
  if (rnum bs e most).2.2 ≠ 0 then (bs, (rnum bs e most).2.2, 0) else (bs.drop (rnum bs e most).2.1, 0, (rnum bs e most).1)
def rFixed (bs : List Int) (e : Int) : List Int × Int × Nat :=
  if e ≠ 0 then (bs, e, 0) else if bs.length < 8 then (bs, 3, 0) else (bs.drop 8, 0, ufix bs 8)
def rText (bs : List Int) (e : Int) (most : Int) : List Int × Int × List Int :=
  if (rnum bs e most.toNat).2.2 ≠ 0 then (bs, (rnum bs e most.toNat).2.2, []) else
  if bs.length - (rnum bs e most.toNat).2.1 < (rnum bs e most.toNat).1 then (bs, 3, []) else
  (bs.drop ((rnum bs e most.toNat).2.1 + (rnum bs e most.toNat).1), 0, (bs.drop (rnum bs e most.toNat).2.1).take (rnum bs e most.toNat).1)
def rEnd (bs : List Int) (e : Int) : Int := if e ≠ 0 then e else if 0 < bs.length then 2 else 0
def rFail (e x : Int) : Int := if e = 0 then x else e

theorem rnum_bad {bs : List Int} {e : Int} {most : Nat} (h : e ≠ 0) : rnum bs e most = (0, 0, e) := by unfold rnum; rw [if_pos h]
theorem rnum_of {bs : List Int} {most n k c : Nat} (ht : vtake bs = (n, k, c)) : rnum bs 0 most = if c ≠ 0 then (0, 0, (c : Int)) else if most < n then (0, 0, 2) else (n, k, 0) := by
  unfold rnum; rw [if_neg (by simp), ht]

theorem rnum_cases (bs : List Int) (hb : ∀ x ∈ bs, 0 ≤ x ∧ x ≤ 255) (most : Nat) : rnum bs 0 most = (0, 0, 2) ∨ rnum bs 0 most = (0, 0, 3) ∨ ∃ n k, rnum bs 0 most = (n, k, 0) ∧ n < 18446744073709551616 ∧ k ≤ bs.length ∧ n ≤ most ∧ vtake bs = (n, k, 0) ∧ vput n = bs.take k := by
  rcases vtake_cases bs hb with h | h | ⟨a, k, h, ha, hk, hp⟩
  · exact .inl (by rw [rnum_of h]; rfl)
  · exact .inr (.inl (by rw [rnum_of h]; rfl))
  · rw [rnum_of h, if_neg (by simp)]
    by_cases hm : most < a
    · rw [if_pos hm]; exact .inl rfl
    · rw [if_neg hm]; exact .inr (.inr ⟨a, k, rfl, by omega, hk, by omega, h, hp⟩)

theorem rNum_err {bs : List Int} {most n k c : Nat} (ht : vtake bs = (n, k, c)) (hc : c ≠ 0) : rNum bs 0 most = (bs, (c : Int), 0) := by
  have hc' : (c : Int) ≠ 0 := by omega
  unfold rNum; rw [rnum_of ht]; simp [hc]
theorem rNum_more {bs : List Int} {most n k : Nat} (ht : vtake bs = (n, k, 0)) (hm : most < n) : rNum bs 0 most = (bs, 2, 0) := by
  unfold rNum; rw [rnum_of ht]; simp [hm]
theorem rNum_ok {bs : List Int} {most n k : Nat} (ht : vtake bs = (n, k, 0)) (hm : ¬ most < n) : rNum bs 0 most = (bs.drop k, 0, n) := by
  unfold rNum; rw [rnum_of ht]; simp [hm]

theorem rNum_put (n : Nat) (hn : n < 18446744073709551616) (more : List Int) (most : Nat) (hm : n ≤ most) : rNum (vput n ++ more) 0 most = (more, 0, n) := by
  have h := rnum_of (most := most) (vtake_put n (by omega) more)
  rw [if_neg (by simp), if_neg (by omega)] at h
  unfold rNum
  rw [h]
  simp

theorem rNum_form (n : Nat) (hn : n < 18446744073709551616) (more : List Int) (most : Nat) (hm : most < n) : rNum (vput n ++ more) 0 most = (vput n ++ more, 2, 0) := by
  have h := rnum_of (most := most) (vtake_put n (by omega) more)
  rw [if_neg (by simp), if_pos (by omega)] at h
  unfold rNum
  rw [h]
  simp

theorem rNum_bad (bs : List Int) (e : Int) (he : e ≠ 0) (most : Nat) : rNum bs e most = (bs, e, 0) := by
  unfold rNum; rw [rnum_bad he]; simp [he]

theorem rFixed_fix (n : Nat) (hn : n < 18446744073709551616) (more : List Int) : rFixed (vfix n ++ more) 0 = (more, 0, n) := by
  have hl : ¬ (vfix n ++ more).length < 8 := by simp [vfix_len]
  unfold rFixed
  rw [if_neg (by simp), if_neg hl, ufix_back n hn more]
  rw [List.drop_append_of_le_length (by rw [vfix_len]; omega), List.drop_of_length_le (by rw [vfix_len]; omega)]
  rfl

theorem rText_text (t more : List Int) (ht : t.length < 18446744073709551616) (most : Int) (hm : (t.length : Int) ≤ most) : rText (vtext t ++ more) 0 most = (more, 0, t) := by
  have h := rnum_of (most := most.toNat) (vtake_put t.length (by omega) (t ++ more))
  rw [if_neg (by simp), if_neg (by omega), ← List.append_assoc] at h
  unfold rText vtext
  rw [h]
  have h1 : (vput t.length ++ t ++ more).length - (vput t.length).length = t.length + more.length := by simp
  rw [if_neg (by simp)]
  dsimp only
  rw [h1, if_neg (by omega), List.append_assoc, List.drop_append, ← List.drop_drop]
  simp

theorem rText_form (t more : List Int) (ht : t.length < 18446744073709551616) (most : Int) (hm : most.toNat < t.length) : rText (vtext t ++ more) 0 most = (vtext t ++ more, 2, []) := by
  have h := rnum_of (most := most.toNat) (vtake_put t.length (by omega) (t ++ more))
  rw [if_neg (by simp), if_pos (by omega), ← List.append_assoc] at h
  unfold rText vtext
  rw [h]
  simp

theorem rNum_drop (bs : List Int) (e : Int) (most : Nat) : ∃ k, (rNum bs e most).1 = bs.drop k := by
  unfold rNum
  split
  · exact ⟨0, rfl⟩
  · exact ⟨_, rfl⟩
theorem rFixed_drop (bs : List Int) (e : Int) : ∃ k, (rFixed bs e).1 = bs.drop k := by
  unfold rFixed
  split
  · exact ⟨0, rfl⟩
  · split
    · exact ⟨0, rfl⟩
    · exact ⟨8, rfl⟩
theorem rText_drop (bs : List Int) (e : Int) (most : Int) : ∃ k, (rText bs e most).1 = bs.drop k := by
  unfold rText
  split
  · exact ⟨0, rfl⟩
  · split
    · exact ⟨0, rfl⟩
    · exact ⟨_, rfl⟩
theorem rText_part (bs : List Int) (e : Int) (most : Int) : ∀ x ∈ (rText bs e most).2.2, x ∈ bs := by
  intro x hx
  unfold rText at hx
  split at hx
  · simp at hx
  · split at hx
    · simp at hx
    · exact List.mem_of_mem_drop (List.mem_of_mem_take hx)

theorem rnum_bounds (bs : List Int) (hb : ∀ x ∈ bs, 0 ≤ x ∧ x ≤ 255) (e : Int) (most : Nat) : (rnum bs e most).1 < 18446744073709551616 ∧ (rnum bs e most).2.1 ≤ bs.length := by
  by_cases he : e = 0
  · subst he
    rcases rnum_cases bs hb most with h | h | ⟨n, k, h, h1, h2, _⟩ <;> rw [h] <;> simp <;> omega
  · rw [rnum_bad he]; simp

end Go.Proofs.Vm
end
section
/- Plain mathematics of records: numbers that are read one behind the other; what is read is its only form, and cut off it is too short. -/
namespace Go.Proofs.Rc
open Go.Proofs.Vm Go.Proofs.Lh
open Go.Proofs.Lm (Sp)

/-! ### Readings -/

/-- What is left, what was wrong, and what was read. -/
abbrev Rd (α : Type) := List Int → Int → List Int × Int × α
def numR (most : Nat) : Rd Nat := fun bs e => rNum bs e most
def bindR {α β : Type} (f : Rd α) (g : α → Rd β) : Rd (α × β) := fun bs e => ((g (f bs e).2.2 (f bs e).1 (f bs e).2.1).1, (g (f bs e).2.2 (f bs e).1 (f bs e).2.1).2.1, ((f bs e).2.2, (g (f bs e).2.2 (f bs e).1 (f bs e).2.1).2.2))
def mapR {α β : Type} (h : α → β) (f : Rd α) : Rd β := fun bs e => ((f bs e).1, (f bs e).2.1, h (f bs e).2.2)
def vecR {α : Type} (f : Rd α) : Nat → Rd (List α)
  | 0 => fun bs e => (bs, e, [])
  | n + 1 => mapR (fun x => x.1 :: x.2) (bindR f fun _ => vecR f n)
def okB (bs : List Int) : Prop := ∀ x ∈ bs, 0 ≤ x ∧ x ≤ 255

/-- f reads what w writes of those that P lets through, and nothing else. -/
structure Form {α : Type} (f : Rd α) (w : α → List Int) (P : α → Prop) : Prop where
  bad : ∀ bs e, e ≠ 0 → (f bs e).1 = bs ∧ (f bs e).2.1 = e
  one : ∀ bs r v, okB bs → f bs 0 = (r, 0, v) → bs = w v ++ r ∧ P v
  back : ∀ v more, P v → f (w v ++ more) 0 = (more, 0, v)
  cut : ∀ v k, P v → k < (w v).length → (f ((w v).take k) 0).2.1 = 3
  errs : ∀ bs, okB bs → (f bs 0).2.1 = 0 ∨ (f bs 0).2.1 = 2 ∨ (f bs 0).2.1 = 3

theorem okB_right {a b : List Int} (h : okB (a ++ b)) : okB b := fun x hx => h x (List.mem_append_right _ hx)
theorem num_form (most : Nat) : Form (numR most) vput (fun n => n ≤ most ∧ n < 18446744073709551616) where
  bad bs e he := by
    unfold numR
    rw [rNum_bad bs e he]
    exact ⟨rfl, rfl⟩
  one bs r v hb h := by
    unfold numR at h
    rcases rnum_cases bs hb most with e | e | ⟨n, k, e, h1, h2, h3, h4, h5⟩
    · unfold rNum at h; rw [e] at h; simp at h
    · unfold rNum at h; rw [e] at h; simp at h
    · rw [rNum_ok h4 (by omega)] at h
      simp only [Prod.mk.injEq] at h
      obtain ⟨rfl, -, rfl⟩ := h
      refine ⟨?_, h3, h1⟩
      rw [h5, List.take_append_drop]
  back v more h := rNum_put v h.2 more most h.1
  cut v k h hk := by
    unfold numR
    rw [rNum_err (vtake_cut v (by omega) k hk) (by decide)]
    rfl
  errs bs hb := by
    unfold numR
    rcases rnum_cases bs hb most with e | e | ⟨n, k, e, h1, h2, h3, h4, h5⟩
    · unfold rNum; rw [e]; simp
    · unfold rNum; rw [e]; simp
    · rw [rNum_ok h4 (by omega)]; simp
theorem bind_form {α β : Type} {f : Rd α} {w : α → List Int} {P : α → Prop} {g : α → Rd β} {u : α → β → List Int} {Q : α → β → Prop} (hf : Form f w P) (hbad : ∀ v bs e, e ≠ 0 → (g v bs e).1 = bs ∧ (g v bs e).2.1 = e) (hg : ∀ v, P v → Form (g v) (u v) (Q v)) :
    Form (bindR f g) (fun x => w x.1 ++ u x.1 x.2) (fun x => P x.1 ∧ Q x.1 x.2) where
  bad bs e he := by
    obtain ⟨h1, h2⟩ := hf.bad bs e he
    unfold bindR
    dsimp only
    rw [h1, h2]
    exact hbad _ bs e he
  one bs r v hb h := by
    obtain ⟨v1, v2⟩ := v
    unfold bindR at h
    obtain ⟨⟨b1, e1, x⟩, hx⟩ : ∃ y, f bs 0 = y := ⟨_, rfl⟩
    rw [hx] at h
    dsimp only at h
    by_cases he : e1 = 0
    · subst he
      obtain ⟨h1, h2⟩ := hf.one bs b1 x hb hx
      obtain ⟨⟨b2, e2, y⟩, hy⟩ : ∃ z, g x b1 0 = z := ⟨_, rfl⟩
      rw [hy] at h
      simp only [Prod.mk.injEq] at h
      obtain ⟨rfl, rfl, rfl, rfl⟩ := h
      obtain ⟨h3, h4⟩ := (hg x h2).one b1 b2 y (by rw [h1] at hb; exact okB_right hb) hy
      exact ⟨by rw [List.append_assoc, ← h3]; exact h1, h2, h4⟩
    · obtain ⟨-, h2⟩ := hbad x b1 e1 he
      simp only [Prod.mk.injEq] at h
      exact absurd (h2.symm.trans h.2.1) he
  back v more h := by
    obtain ⟨v1, v2⟩ := v
    have h1 := hf.back v1 (u v1 v2 ++ more) h.1
    have h2 := (hg v1 h.1).back v2 more h.2
    unfold bindR
    dsimp only
    rw [List.append_assoc, h1]
    dsimp only
    rw [h2]
  cut v k h hk := by
    obtain ⟨v1, v2⟩ := v
    dsimp only at hk ⊢
    unfold bindR
    dsimp only
    rw [List.length_append] at hk
    rcases Nat.lt_or_ge k (w v1).length with hl | hl
    · have h1 := hf.cut v1 k h.1 hl
      rw [List.take_append_of_le_length (by omega)]
      obtain ⟨-, h2⟩ := hbad (f ((w v1).take k) 0).2.2 (f ((w v1).take k) 0).1 (f ((w v1).take k) 0).2.1 (by rw [h1]; decide)
      rw [h2, h1]
    · rw [List.take_append, List.take_of_length_le hl, hf.back v1 _ h.1]
      exact (hg v1 h.1).cut v2 (k - (w v1).length) h.2 (by omega)
  errs bs hb := by
    unfold bindR
    obtain ⟨⟨b1, e1, x⟩, hx⟩ : ∃ y, f bs 0 = y := ⟨_, rfl⟩
    have hc := hf.errs bs hb
    rw [hx] at hc ⊢
    dsimp only at hc ⊢
    by_cases he : e1 = 0
    · subst he
      obtain ⟨h1, h2⟩ := hf.one bs b1 x hb hx
      exact (hg x h2).errs b1 (by rw [h1] at hb; exact okB_right hb)
    · rw [(hbad x b1 e1 he).2]
      exact hc
theorem map_form {α β : Type} {f : Rd α} {w : α → List Int} {P : α → Prop} (hf : Form f w P) (h : α → β) (h' : β → α) (hh : ∀ v, P v → h' (h v) = v) {u : β → List Int} {Q : β → Prop} (hu : ∀ b, Q b → u b = w (h' b)) (hQ : ∀ b, Q b → P (h' b) ∧ h (h' b) = b) (hP : ∀ v, P v → Q (h v)) : Form (mapR h f) u Q where
  bad bs e he := hf.bad bs e he
  one bs r v hb hx := by
    unfold mapR at hx
    obtain ⟨⟨b1, e1, x⟩, hy⟩ : ∃ y, f bs 0 = y := ⟨_, rfl⟩
    rw [hy] at hx
    simp only [Prod.mk.injEq] at hx
    obtain ⟨rfl, rfl, rfl⟩ := hx
    obtain ⟨h1, h2⟩ := hf.one bs b1 x hb hy
    refine ⟨?_, hP x h2⟩
    rw [hu _ (hP x h2), hh x h2]
    exact h1
  back v more hv := by
    obtain ⟨h1, h2⟩ := hQ v hv
    unfold mapR
    rw [hu v hv, hf.back _ more h1, h2]
  cut v k hv hk := by
    rw [hu v hv] at hk ⊢
    exact hf.cut _ k (hQ v hv).1 hk
  errs bs hb := hf.errs bs hb
theorem vec_bad {α : Type} {f : Rd α} {w : α → List Int} {P : α → Prop} (hf : Form f w P) : ∀ n bs e, e ≠ 0 → (vecR f n bs e).1 = bs ∧ (vecR f n bs e).2.1 = e
  | 0, _, _, _ => ⟨rfl, rfl⟩
  | n + 1, bs, e, he => by
    obtain ⟨h1, h2⟩ := hf.bad bs e he
    show (vecR f n (f bs e).1 (f bs e).2.1).1 = bs ∧ (vecR f n (f bs e).1 (f bs e).2.1).2.1 = e
    rw [h1, h2]
    exact vec_bad hf n bs e he
theorem vec_form {α : Type} {f : Rd α} {w : α → List Int} {P : α → Prop} (hf : Form f w P) : ∀ n, Form (vecR f n) (fun l => l.flatMap w) (fun l => l.length = n ∧ ∀ x ∈ l, P x)
  | 0 => by
    refine ⟨fun bs e _ => ⟨rfl, rfl⟩, fun bs r v _ h => ?_, fun v more h => ?_, fun v k h hk => ?_, fun bs _ => .inl rfl⟩
    · simp only [vecR, Prod.mk.injEq] at h
      obtain ⟨rfl, -, rfl⟩ := h
      exact ⟨rfl, rfl, by simp⟩
    · rw [List.eq_nil_of_length_eq_zero h.1]
      rfl
    · rw [List.eq_nil_of_length_eq_zero h.1] at hk
      simp at hk
  | n + 1 => by
    have ih := vec_form hf n
    have hb := bind_form (g := fun _ => vecR f n) (u := fun _ l => l.flatMap w) (Q := fun _ l => l.length = n ∧ ∀ x ∈ l, P x) hf (fun _ => vec_bad hf n) fun _ _ => ih
    refine map_form (α := α × List α) hb (fun x => x.1 :: x.2) (fun l => match l with | [] => ((f [] 0).2.2, []) | a :: l => (a, l)) (fun v _ => rfl) (fun b hb => ?_) (fun b hb => ?_) (fun v hv => ?_)
    · match b, hb with
      | [], hb => simp at hb
      | a :: l, hb => rfl
    · match b, hb with
      | [], hb => simp at hb
      | a :: l, hb => exact ⟨⟨hb.2 a List.mem_cons_self, by simpa using hb.1, fun x hx => hb.2 x (List.mem_cons_of_mem _ hx)⟩, rfl⟩
    · refine ⟨by simp [hv.2.1], fun x hx => ?_⟩
      rcases List.mem_cons.1 hx with rfl | hx
      · exact hv.1
      · exact hv.2.2 x hx
/-- How many, and then each. -/
def listR {α : Type} (most : Nat) (f : Rd α) : Rd (List α) := mapR Prod.snd (bindR (numR most) fun n => vecR f n)
theorem list_form {α : Type} {f : Rd α} {w : α → List Int} {P : α → Prop} (hf : Form f w P) {most : Nat} (hm : most < 18446744073709551616) : Form (listR most f) (fun l => vput l.length ++ l.flatMap w) (fun l => l.length ≤ most ∧ ∀ x ∈ l, P x) := by
  have hb := bind_form (g := fun n => vecR f n) (u := fun _ l => l.flatMap w) (Q := fun n l => l.length = n ∧ ∀ x ∈ l, P x) (num_form most) (fun n => vec_bad hf n) fun n _ => vec_form hf n
  refine map_form hb Prod.snd (fun l => (l.length, l)) (fun v hv => ?_) (fun b _ => rfl) (fun b hb => ⟨⟨⟨hb.1, by have := hb.1; omega⟩, rfl, hb.2⟩, rfl⟩) (fun v hv => ⟨by have h1 := hv.1.1; have h2 := hv.2.1; omega, hv.2.2⟩)
  obtain ⟨n, l⟩ := v
  have : l.length = n := hv.2.1
  rw [this]

/-! ### A record -/

def maxT : Nat := 9223372036854775807
abbrev Raw := Nat × Nat × List (List (Nat × Nat))
def pairR : Rd (Nat × Nat) := bindR (numR maxT) fun _ => numR maxT
def levelR : Rd (List (Nat × Nat)) := listR 1025 pairR
def rawR : Rd Raw := bindR (numR 1024) fun _ => bindR (numR 4) fun _ => listR 52 levelR
def pairW (x : Nat × Nat) : List Int := vput x.1 ++ vput x.2
def levelW (l : List (Nat × Nat)) : List Int := vput l.length ++ l.flatMap pairW
def rawW (x : Raw) : List Int := vput x.1 ++ (vput x.2.1 ++ (vput x.2.2.length ++ x.2.2.flatMap levelW))
def rawP (x : Raw) : Prop := x.1 ≤ 1024 ∧ x.2.1 ≤ 4 ∧ x.2.2.length ≤ 52 ∧ ∀ l ∈ x.2.2, l.length ≤ 1025 ∧ ∀ p ∈ l, p.1 ≤ maxT ∧ p.2 ≤ maxT
theorem pair_form : Form pairR pairW (fun x => (x.1 ≤ maxT ∧ x.1 < 18446744073709551616) ∧ x.2 ≤ maxT ∧ x.2 < 18446744073709551616) :=
  bind_form (num_form maxT) (fun _ => (num_form maxT).bad) fun _ _ => num_form maxT
theorem level_form : Form levelR levelW (fun l => l.length ≤ 1025 ∧ ∀ p ∈ l, (p.1 ≤ maxT ∧ p.1 < 18446744073709551616) ∧ p.2 ≤ maxT ∧ p.2 < 18446744073709551616) := list_form (f := pairR) pair_form (most := 1025) (by decide)
theorem raw_form : Form rawR rawW rawP := by
  have h1 := list_form level_form (most := 52) (by decide)
  have h2 := bind_form (num_form 4) (fun _ => h1.bad) fun _ _ => h1
  have h3 := bind_form (num_form 1024) (fun _ => h2.bad) fun _ _ => h2
  have hq : ∀ x : Raw, rawP x ↔ (x.1 ≤ 1024 ∧ x.1 < 18446744073709551616) ∧ (x.2.1 ≤ 4 ∧ x.2.1 < 18446744073709551616) ∧ x.2.2.length ≤ 52 ∧ ∀ l ∈ x.2.2, l.length ≤ 1025 ∧ ∀ p ∈ l, (p.1 ≤ maxT ∧ p.1 < 18446744073709551616) ∧ p.2 ≤ maxT ∧ p.2 < 18446744073709551616 := by
    intro x
    unfold rawP
    constructor
    · rintro ⟨a, b, c, d⟩
      exact ⟨⟨a, by omega⟩, ⟨b, by omega⟩, c, fun l hl => ⟨(d l hl).1, fun p hp => by have := (d l hl).2 p hp; unfold maxT at this ⊢; omega⟩⟩
    · rintro ⟨a, b, c, d⟩
      exact ⟨a.1, b.1, c, fun l hl => ⟨(d l hl).1, fun p hp => by have := (d l hl).2 p hp; exact ⟨this.1.1, this.2.1⟩⟩⟩
  exact ⟨h3.bad, fun bs r v hb h => by obtain ⟨q1, q2⟩ := h3.one bs r v hb h; exact ⟨q1, (hq v).2 q2⟩, fun v more h => h3.back v more ((hq v).1 h), fun v k h hk => h3.cut v k ((hq v).1 h) hk, h3.errs⟩

/-! ### Ticks -/

def wr (n : Nat) : Nat := n % 18446744073709551616
def spOf (a x y : Nat) : Sp := (wr (a + x), wr (a + x + y))
/-- The tick ahead of the next one. -/
def nextA (x : Nat) (s : Sp) : Nat := if s.2 < s.1 ∨ s.1 < x ∨ maxT < s.2 then 9223372036854775808 else s.2
def decSp : Nat → List (Nat × Nat) → List Sp × Nat
  | a, [] => ([], a)
  | a, p :: l => (spOf a p.1 p.2 :: (decSp (nextA p.1 (spOf a p.1 p.2)) l).1, (decSp (nextA p.1 (spOf a p.1 p.2)) l).2)
def decLv : Nat → List (List (Nat × Nat)) → List (List Sp) × Nat
  | a, [] => ([], a)
  | a, l :: r => ((decSp a l).1 :: (decLv (decSp a l).2 r).1, (decLv (decSp a l).2 r).2)
def encSp : Nat → List Sp → List (Nat × Nat)
  | _, [] => []
  | a, b :: l => (b.1 - a, b.2 - b.1) :: encSp b.2 l
def endT (a : Nat) (l : List Sp) : Nat := (l.getLast?.map (·.2)).getD a
theorem endT_cons (a : Nat) (b : Sp) (l : List Sp) : endT a (b :: l) = endT b.2 l := by
  unfold endT
  cases l with
  | nil => rfl
  | cons c l => simp [List.getLast?_cons]
def encLv : Nat → List (List Sp) → List (List (Nat × Nat))
  | _, [] => []
  | a, l :: r => encSp a l :: encLv (endT a l) r
theorem encSp_len : ∀ (l : List Sp) (a : Nat), (encSp a l).length = l.length
  | [], _ => rfl
  | b :: l, a => by rw [encSp, List.length_cons, List.length_cons, encSp_len l]
theorem encLv_len : ∀ (r : List (List Sp)) (a : Nat), (encLv a r).length = r.length
  | [], _ => rfl
  | l :: r, a => by rw [encLv, List.length_cons, List.length_cons, encLv_len r]
theorem decSp_len : ∀ (l : List (Nat × Nat)) (a : Nat), (decSp a l).1.length = l.length
  | [], _ => rfl
  | p :: l, a => by
    show (decSp _ l).1.length + 1 = l.length + 1
    rw [decSp_len l]
theorem decLv_len : ∀ (r : List (List (Nat × Nat))) (a : Nat), (decLv a r).1.length = r.length
  | [], _ => rfl
  | l :: r, a => by
    show (decLv _ r).1.length + 1 = r.length + 1
    rw [decLv_len r]
/-- There. -/
theorem enc_dec : ∀ (l : List Sp) (a : Nat), a ≤ maxT → inTurn a l = true → decSp a (encSp a l) = (l, endT a l) ∧ endT a l ≤ maxT ∧ ∀ p ∈ encSp a l, p.1 ≤ maxT ∧ p.2 ≤ maxT
  | [], a, ha, _ => ⟨rfl, ha, by simp [encSp]⟩
  | b :: l, a, ha, h => by
    rw [inTurn, Bool.and_eq_true, decide_eq_true_iff] at h
    obtain ⟨⟨h1, h2, h3⟩, h4⟩ := h
    have hs : spOf a (b.1 - a) (b.2 - b.1) = b := by
      unfold spOf wr
      refine Prod.ext ?_ ?_
      · show (a + (b.1 - a)) % 18446744073709551616 = b.1
        omega
      · show (a + (b.1 - a) + (b.2 - b.1)) % 18446744073709551616 = b.2
        omega
    have hn : nextA (b.1 - a) b = b.2 := by
      unfold nextA maxT
      rw [if_neg (by omega)]
    obtain ⟨i1, i2, i3⟩ := enc_dec l b.2 h3 h4
    refine ⟨?_, by rw [endT_cons]; exact i2, fun p hp => ?_⟩
    · rw [encSp, decSp]
      dsimp only
      rw [hs, hn, i1, endT_cons]
    · rw [encSp] at hp
      rcases List.mem_cons.1 hp with rfl | hp
      · unfold maxT
        dsimp only
        omega
      · exact i3 p hp
/-- And back. -/
theorem dec_enc : ∀ (l : List (Nat × Nat)) (a : Nat), a ≤ maxT → (∀ p ∈ l, p.1 ≤ maxT ∧ p.2 ≤ maxT) → inTurn a (decSp a l).1 = true → encSp a (decSp a l).1 = l ∧ (decSp a l).2 = endT a (decSp a l).1
  | [], a, _, _, _ => ⟨rfl, rfl⟩
  | p :: l, a, ha, hp, h => by
    rw [decSp] at h
    dsimp only at h
    rw [inTurn, Bool.and_eq_true, decide_eq_true_iff] at h
    obtain ⟨⟨h1, h2, h3⟩, h4⟩ := h
    obtain ⟨hp1, hp2⟩ := hp p List.mem_cons_self
    unfold maxT at ha hp1 hp2
    have e1 : (spOf a p.1 p.2).1 = a + p.1 := by
      show (a + p.1) % 18446744073709551616 = _
      omega
    have e2 : (spOf a p.1 p.2).2 = a + p.1 + p.2 := by
      rw [e1] at h1
      have : (spOf a p.1 p.2).2 = (a + p.1 + p.2) % 18446744073709551616 := rfl
      rw [this] at h1 ⊢
      omega
    have hn : nextA p.1 (spOf a p.1 p.2) = (spOf a p.1 p.2).2 := by
      unfold nextA maxT
      rw [if_neg (by omega)]
    rw [hn] at h4
    obtain ⟨i1, i2⟩ := dec_enc l _ (by unfold maxT; omega) (fun q hq => hp q (List.mem_cons_of_mem _ hq)) h4
    rw [decSp]
    dsimp only
    rw [hn]
    refine ⟨?_, ?_⟩
    · rw [encSp, i1]
      congr 1
      refine Prod.ext ?_ ?_
      · show (spOf a p.1 p.2).1 - a = p.1
        omega
      · show (spOf a p.1 p.2).2 - (spOf a p.1 p.2).1 = p.2
        omega
    · rw [endT_cons]
      exact i2
theorem enc_decL : ∀ (r : List (List Sp)) (a : Nat), a ≤ maxT → inTurn a r.flatten = true → decLv a (encLv a r) = (r, endT a r.flatten) ∧ ∀ l ∈ encLv a r, ∀ p ∈ l, p.1 ≤ maxT ∧ p.2 ≤ maxT
  | [], a, _, _ => ⟨rfl, by simp [encLv]⟩
  | l :: r, a, ha, h => by
    rw [List.flatten_cons, inTurn_app, Bool.and_eq_true] at h
    obtain ⟨i1, i2, i3⟩ := enc_dec l a ha h.1
    obtain ⟨j1, j2⟩ := enc_decL r (endT a l) i2 h.2
    have he : endT a (l :: r).flatten = endT (endT a l) r.flatten := by
      rw [List.flatten_cons]
      unfold endT
      rw [List.getLast?_append]
      cases h : r.flatten.getLast? <;> simp
    refine ⟨?_, fun l' hl p hp => ?_⟩
    · rw [encLv, decLv, i1, he]
      dsimp only
      rw [j1]
    · rw [encLv] at hl
      rcases List.mem_cons.1 hl with rfl | hl
      · exact i3 p hp
      · exact j2 l' hl p hp
theorem dec_encL : ∀ (r : List (List (Nat × Nat))) (a : Nat), a ≤ maxT → (∀ l ∈ r, ∀ p ∈ l, p.1 ≤ maxT ∧ p.2 ≤ maxT) → inTurn a (decLv a r).1.flatten = true → encLv a (decLv a r).1 = r
  | [], a, _, _, _ => rfl
  | l :: r, a, ha, hp, h => by
    rw [decLv] at h ⊢
    dsimp only at h ⊢
    rw [List.flatten_cons, inTurn_app, Bool.and_eq_true] at h
    obtain ⟨i1, i2⟩ := dec_enc l a ha (hp l List.mem_cons_self) h.1
    have ht := (enc_dec (decSp a l).1 a ha h.1).2.1
    have h2 : inTurn (endT a (decSp a l).1) (decLv (decSp a l).2 r).1.flatten = true := h.2
    rw [encLv, i1]
    rw [i2] at h2 ⊢
    rw [dec_encL r _ ht (fun l' hl => hp l' (List.mem_cons_of_mem _ hl)) h2]

/-! ### A histogram -/

def toM (x : Raw) : Hm := ((x.1 : Int), (x.2.1 : Int), (decLv 0 x.2.2).1.reverse)
def ofM (m : Hm) : Raw := (m.1.toNat, m.2.1.toNat, encLv 0 m.2.2.reverse)
def putM (m : Hm) : List Int := if chk m.1 m.2.1 m.2.2 = 0 then rawW (ofM m) else []
def takeM : Rd Hm := fun bs e =>
  if (rawR bs e).2.1 ≠ 0 then ((rawR bs e).1, (rawR bs e).2.1, (0, 0, [])) else
  if chk (toM (rawR bs e).2.2).1 (toM (rawR bs e).2.2).2.1 (toM (rawR bs e).2.2).2.2 ≠ 0 then ((rawR bs e).1, 2, (0, 0, [])) else ((rawR bs e).1, 0, toM (rawR bs e).2.2)
def oneM (bs : List Int) : Hm × Int := if rEnd (takeM bs 0).1 (takeM bs 0).2.1 ≠ 0 then ((0, 0, []), rEnd (takeM bs 0).1 (takeM bs 0).2.1) else ((takeM bs 0).2.2, 0)
theorem all_flat : ∀ ls : Lv, allOf ls = ls.reverse.flatten
  | [] => rfl
  | l :: ls => by
    rw [List.reverse_cons, List.flatten_append, ← all_flat ls]
    simp [allOf]
theorem chk_zero {k g : Int} {ls : Lv} (h : chk k g ls = 0) : (2 ≤ k ∧ k ≤ 1024) ∧ (0 ≤ g ∧ g ≤ 4) ∧ goodB k.toNat ls = true := by
  unfold chk at h
  split at h
  · rename_i h1
    split at h
    · rename_i h2
      exact ⟨h1.1, h1.2, h2⟩
    · simp at h
  · simp at h
theorem good_parts {k : Nat} {ls : Lv} (h : goodB k ls = true) : (∀ i, i < ls.length → levOk k ls i = true) ∧ ls.length ≤ 52 ∧ inTurn 0 ls.reverse.flatten = true := by
  unfold goodB shapedB at h
  simp only [Bool.and_eq_true, decide_eq_true_iff, List.all_eq_true, List.mem_range] at h
  exact ⟨h.1.1.1, h.1.1.2, by rw [← all_flat]; exact h.1.2.1⟩
theorem encLv_lens : ∀ (r : List (List Sp)) (a : Nat), ∀ l ∈ encLv a r, ∃ l' ∈ r, l.length = l'.length
  | [], _ => by simp [encLv]
  | l :: r, a => by
    intro x hx
    rw [encLv] at hx
    rcases List.mem_cons.1 hx with rfl | hx
    · exact ⟨l, List.mem_cons_self, encSp_len l a⟩
    · obtain ⟨l', h1, h2⟩ := encLv_lens r _ x hx
      exact ⟨l', List.mem_cons_of_mem _ h1, h2⟩
/-- What may be, as numbers. -/
theorem of_raw {m : Hm} (h : chk m.1 m.2.1 m.2.2 = 0) : rawP (ofM m) ∧ toM (ofM m) = m := by
  obtain ⟨k, g, ls⟩ := m
  obtain ⟨⟨h1, h2⟩, ⟨h3, h4⟩, h5⟩ := chk_zero h
  obtain ⟨g1, g2, g3⟩ := good_parts h5
  dsimp only at h1 h2 h3 h4 g1 g2 g3
  obtain ⟨e1, e2⟩ := enc_decL ls.reverse 0 (by unfold maxT; omega) g3
  unfold ofM toM
  dsimp only
  refine ⟨⟨by dsimp only; omega, by dsimp only; omega, by dsimp only; rw [encLv_len, List.length_reverse]; exact g2, fun l hl => ⟨?_, e2 l hl⟩⟩, ?_⟩
  · obtain ⟨l', hl', e⟩ := encLv_lens _ _ l hl
    obtain ⟨i, hi, rfl⟩ := List.getElem_of_mem (List.mem_reverse.1 hl')
    have := g1 i hi
    unfold levOk at this
    rw [decide_eq_true_iff, lev_lt hi] at this
    have hr : rm k.toNat i ≤ k.toNat + 1 := by unfold rm; split <;> omega
    omega
  · rw [e1, List.reverse_reverse, Int.toNat_of_nonneg (by omega), Int.toNat_of_nonneg h3]
theorem of_to {x : Raw} (hp : rawP x) (h : chk (toM x).1 (toM x).2.1 (toM x).2.2 = 0) : ofM (toM x) = x := by
  obtain ⟨k, g, r⟩ := x
  obtain ⟨-, -, h5⟩ := chk_zero h
  obtain ⟨-, -, g3⟩ := good_parts h5
  unfold toM at g3
  dsimp only at g3
  rw [List.reverse_reverse] at g3
  unfold toM ofM
  dsimp only
  rw [List.reverse_reverse, Int.toNat_natCast, Int.toNat_natCast, dec_encL r 0 (by unfold maxT; omega) (fun l hl => (hp.2.2.2 l hl).2) g3]
theorem take_err {bs : List Int} {e : Int} (he : e ≠ 0) : takeM bs e = (bs, e, (0, 0, [])) := by
  obtain ⟨h1, h2⟩ := raw_form.bad bs e he
  unfold takeM
  rw [h2, h1, if_pos he]
/-- A histogram is told there and back; these bytes are its only form; cut off they are too short. -/
theorem take_form : Form takeM putM (fun m => chk m.1 m.2.1 m.2.2 = 0) where
  bad bs e he := by
    rw [take_err he]
    exact ⟨rfl, rfl⟩
  one bs r v hb h := by
    unfold takeM at h
    obtain ⟨⟨b1, e1, x⟩, hx⟩ : ∃ y, rawR bs 0 = y := ⟨_, rfl⟩
    rw [hx] at h
    dsimp only at h
    by_cases he : e1 = 0
    · rw [if_neg (by simpa using he)] at h
      subst he
      by_cases hc : chk (toM x).1 (toM x).2.1 (toM x).2.2 = 0
      · rw [if_neg (by simpa using hc)] at h
        simp only [Prod.mk.injEq, true_and] at h
        obtain ⟨rfl, rfl⟩ := h
        obtain ⟨h1, h2⟩ := raw_form.one bs b1 x hb hx
        refine ⟨?_, hc⟩
        unfold putM
        rw [if_pos hc, of_to h2 hc]
        exact h1
      · rw [if_pos hc] at h
        simp at h
    · rw [if_pos he] at h
      simp only [Prod.mk.injEq] at h
      exact absurd h.2.1 he
  back v more h := by
    obtain ⟨h1, h2⟩ := of_raw h
    unfold takeM putM
    rw [if_pos h, raw_form.back _ more h1, if_neg (by simp), h2, if_neg (by simpa using h)]
  cut v k h hk := by
    obtain ⟨h1, h2⟩ := of_raw h
    unfold putM at hk ⊢
    rw [if_pos h] at hk ⊢
    have := raw_form.cut _ k h1 hk
    unfold takeM
    rw [if_pos (by rw [this]; decide)]
    exact this
  errs bs hb := by
    have := raw_form.errs bs hb
    unfold takeM
    by_cases he : (rawR bs 0).2.1 = 0
    · rw [if_neg (by simpa using he)]
      split
      · exact .inr (.inl rfl)
      · exact .inl rfl
    · rw [if_pos he]
      exact this
/-- What a reading leaves, of whatever bytes. -/
theorem num_drop (most : Nat) (bs : List Int) (e : Int) : ∃ k, (numR most bs e).1 = bs.drop k := rNum_drop bs e most
theorem bind_drop {α β : Type} {f : Rd α} {g : α → Rd β} (hf : ∀ bs e, ∃ k, (f bs e).1 = bs.drop k) (hg : ∀ v bs e, ∃ k, (g v bs e).1 = bs.drop k) (bs : List Int) (e : Int) : ∃ k, (bindR f g bs e).1 = bs.drop k := by
  obtain ⟨k, hk⟩ := hf bs e
  obtain ⟨j, hj⟩ := hg (f bs e).2.2 (f bs e).1 (f bs e).2.1
  refine ⟨k + j, ?_⟩
  unfold bindR
  dsimp only
  rw [hj, hk, List.drop_drop]
theorem vec_drop {α : Type} {f : Rd α} (hf : ∀ bs e, ∃ k, (f bs e).1 = bs.drop k) : ∀ n bs e, ∃ k, (vecR f n bs e).1 = bs.drop k
  | 0, _, _ => ⟨0, rfl⟩
  | n + 1, bs, e => bind_drop hf (fun _ => vec_drop hf n) bs e
theorem list_drop {α : Type} {f : Rd α} (hf : ∀ bs e, ∃ k, (f bs e).1 = bs.drop k) (most : Nat) (bs : List Int) (e : Int) : ∃ k, (listR most f bs e).1 = bs.drop k :=
  bind_drop (num_drop most) (fun n => vec_drop hf n) bs e
theorem raw_drop (bs : List Int) (e : Int) : ∃ k, (rawR bs e).1 = bs.drop k :=
  bind_drop (num_drop 1024) (fun _ => bind_drop (num_drop 4) fun _ => list_drop (list_drop (bind_drop (num_drop maxT) fun _ => num_drop maxT) 1025) 52) bs e
theorem take_drop (bs : List Int) (e : Int) : ∃ k, (takeM bs e).1 = bs.drop k := by
  obtain ⟨k, hk⟩ := raw_drop bs e
  refine ⟨k, ?_⟩
  unfold takeM
  split
  · exact hk
  · split <;> exact hk
/-- One: there and back; with more, or cut off, it is refused. -/
theorem one_put {m : Hm} (h : chk m.1 m.2.1 m.2.2 = 0) : oneM (putM m) = (m, 0) := by
  have := take_form.back m [] h
  rw [List.append_nil] at this
  unfold oneM
  rw [this]
  rfl
theorem one_more {m : Hm} (h : chk m.1 m.2.1 m.2.2 = 0) (x : Int) : oneM (putM m ++ [x]) = ((0, 0, []), 2) := by
  unfold oneM
  rw [take_form.back m [x] h]
  rfl
theorem one_cut {m : Hm} (h : chk m.1 m.2.1 m.2.2 = 0) {k : Nat} (hk : k < (putM m).length) : oneM ((putM m).take k) = ((0, 0, []), 3) := by
  have hc := take_form.cut m k h hk
  have he : rEnd (takeM ((putM m).take k) 0).1 (takeM ((putM m).take k) 0).2.1 = 3 := by
    unfold rEnd
    rw [hc]
    rfl
  unfold oneM
  rw [he]
  rfl
/-- Bytes that are one are its only form. -/
theorem one_of {bs : List Int} (hb : okB bs) (h : (oneM bs).2 = 0) : chk (oneM bs).1.1 (oneM bs).1.2.1 (oneM bs).1.2.2 = 0 ∧ putM (oneM bs).1 = bs := by
  unfold oneM at h ⊢
  by_cases he : rEnd (takeM bs 0).1 (takeM bs 0).2.1 = 0
  · rw [if_neg (by simpa using he)]
    obtain ⟨⟨b1, e1, v⟩, hx⟩ : ∃ y, takeM bs 0 = y := ⟨_, rfl⟩
    rw [hx] at he ⊢
    unfold rEnd at he
    dsimp only at he ⊢
    by_cases h0 : e1 = 0
    · subst h0
      rw [if_neg (by simp)] at he
      have hl : b1 = [] := by
        by_cases h1 : 0 < b1.length
        · rw [if_pos h1] at he
          simp at he
        · exact List.eq_nil_of_length_eq_zero (by omega)
      subst hl
      obtain ⟨h1, h2⟩ := take_form.one bs [] v hb hx
      rw [List.append_nil] at h1
      exact ⟨h2, h1.symm⟩
    · rw [if_pos h0] at he
      exact absurd he h0
  · rw [if_pos he] at h
    exact absurd h he
theorem one_bad {bs : List Int} (h : (oneM bs).2 ≠ 0) : (oneM bs).1 = (0, 0, []) := by
  unfold oneM at h ⊢
  split
  · rfl
  · rename_i he
    rw [if_neg he] at h
    exact absurd rfl h
/-- Put tells something of what may be. -/
theorem put_pos {m : Hm} (h : chk m.1 m.2.1 m.2.2 = 0) : 0 < (putM m).length := by
  unfold putM
  rw [if_pos h]
  unfold rawW
  rw [List.length_append]
  have := vput_len_pos (ofM m).1
  omega
end Go.Proofs.Rc
end
