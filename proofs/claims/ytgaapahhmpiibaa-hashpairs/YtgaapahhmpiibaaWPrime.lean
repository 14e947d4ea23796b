/- 2^61 less 1 lets every factor that it doesn't divide be taken back: the powers of 37 are all its rests but 0. -/
import Derived.KernelRfl
import Derived.Test.YtgaapahhmpiibaaWMath
namespace Go.Proofs.Wm

/-- Powers' rests, by halves of the exponent. -/
def sq (a e h : Nat) : Nat := if e % 2 = 0 then h * h % 2305843009213693951 else h * h % 2305843009213693951 * a % 2305843009213693951
def pq (a : Nat) : Nat → Nat → Nat
  | 0, _ => 1
  | f + 1, e => sq a e (pq a f (e / 2))

theorem pq_eq (a : Nat) : ∀ f e, e < 2 ^ f → pq a f e = a ^ e % 2305843009213693951
  | 0, e, h => by
    have : e = 0 := by simpa using h
    subst this
    rfl
  | f + 1, e, h => by
    have ih := pq_eq a f (e / 2) (by rw [Nat.pow_succ] at h; omega)
    rw [pq, ih]
    unfold sq
    have hm : ∀ x : Nat, x % 2305843009213693951 * (x % 2305843009213693951) % 2305843009213693951 = x * x % 2305843009213693951 := fun x => (Nat.mul_mod x x _).symm
    rw [hm, ← Nat.pow_add]
    by_cases h2 : e % 2 = 0
    · rw [if_pos h2, show e / 2 + e / 2 = e by omega]
    · rw [if_neg h2, Nat.mod_mul_mod, ← Nat.pow_succ, show (e / 2 + e / 2).succ = e by omega]

/-- Powers that are 1: so is that of the exponents' greatest divisor. -/
theorem pow_gcd (a N m n : Nat) : a ^ m % N = 1 % N → a ^ n % N = 1 % N → a ^ Nat.gcd m n % N = 1 % N := by
  induction m, n using Nat.gcd.induction with
  | H0 n => intro _ h; rwa [Nat.gcd_zero_left]
  | H1 m n hm ih =>
    intro h1 h2
    rw [Nat.gcd_rec]
    refine ih ?_ h1
    have e : n = m * (n / m) + n % m := (Nat.div_add_mod n m).symm
    rw [e, Nat.pow_add, Nat.pow_mul, Nat.mul_mod, Nat.pow_mod (a ^ m), h1, ← Nat.pow_mod, Nat.one_pow, ← Nat.mul_mod, Nat.one_mul] at h2
    exact h2

/-- An injection of the numbers below n into themselves comes to each. -/
theorem onto_of_inj : ∀ (n : Nat) (f : Nat → Nat), (∀ i, i < n → f i < n) → (∀ i j, i < n → j < n → f i = f j → i = j) → ∀ y, y < n → ∃ i, i < n ∧ f i = y
  | 0, _, _, _, y, hy => absurd hy (by omega)
  | n + 1, f, hlt, hinj, y, hy => by
    -- g: as f, but where f i = n, f n
    have hg := onto_of_inj n (fun i => if f i = n then f n else f i)
      (fun i hi => by
        by_cases h : f i = n
        · simp only [h, if_true]
          have h1 := hlt n (by omega)
          have h2 : f n ≠ n := fun e => absurd (hinj i n (by omega) (by omega) (h.trans e.symm)) (by omega)
          omega
        · simp only [h, if_false]
          have h1 := hlt i (by omega)
          omega)
      (fun i j hi hj h => by
        by_cases h1 : f i = n
        · by_cases h2 : f j = n
          · exact hinj i j (by omega) (by omega) (h1.trans h2.symm)
          · simp only [h1, h2, if_true, if_false] at h
            exact absurd (hinj n j (by omega) (by omega) h) (by omega)
        · by_cases h2 : f j = n
          · simp only [h1, h2, if_true, if_false] at h
            exact absurd (hinj i n (by omega) (by omega) h) (by omega)
          · simp only [h1, h2, if_false] at h
            exact hinj i j (by omega) (by omega) h)
    by_cases hyn : y = n
    · by_cases hfn : f n = n
      · exact ⟨n, by omega, by omega⟩
      · have h1 : f n < n := by have := hlt n (by omega); omega
        obtain ⟨i, hi, he⟩ := hg (f n) h1
        by_cases h : f i = n
        · exact ⟨i, by omega, by omega⟩
        · simp only [h, if_false] at he
          exact absurd (hinj i n (by omega) (by omega) he) (by omega)
    · obtain ⟨i, hi, he⟩ := hg y (by omega)
      by_cases h : f i = n
      · simp only [h, if_true] at he
        exact ⟨n, by omega, he⟩
      · simp only [h, if_false] at he
        exact ⟨i, by omega, he⟩

/-- A small prime: what it doesn't divide has no divisor with it. -/
def smallB (q : Nat) : Bool := (List.range q).all fun d => d == 0 || Nat.gcd d q == 1
theorem small_coprime {q : Nat} (hq : 0 < q) (h : smallB q = true) (n : Nat) (hn : ¬ q ∣ n) : Nat.Coprime n q := by
  have h1 : n % q ≠ 0 := fun e => hn (Nat.dvd_of_mod_eq_zero e)
  have h2 := List.all_eq_true.1 h (n % q) (List.mem_range.2 (Nat.mod_lt _ hq))
  simp only [Bool.or_eq_true, beq_iff_eq] at h2
  rcases h2 with h2 | h2
  · exact absurd h2 h1
  · unfold Nat.Coprime
    rw [Nat.gcd_comm, Nat.gcd_rec]
    exact h2

def qs : List Nat := [2, 3, 3, 5, 5, 7, 11, 13, 31, 41, 61, 151, 331, 1321]
theorem qs_small : qs.all (fun q => decide (0 < q) && smallB q) = true := by kernel_rfl
def prodL : List Nat → Nat
  | [] => 1
  | q :: l => q * prodL l
theorem qs_prod : prodL qs = 2305843009213693950 := by kernel_rfl
theorem qs_pow : qs.all (fun q => pq 37 61 (2305843009213693950 / q) != 1) = true := by kernel_rfl
theorem m_pow : pq 37 61 2305843009213693950 = 1 := by kernel_rfl

theorem some_q (n : Nat) : ∀ l : List Nat, (∀ q ∈ l, 0 < q ∧ smallB q = true) → n ∣ prodL l → n ≠ 1 → ∃ q ∈ l, q ∣ n
  | [], _, hd, h1 => absurd (Nat.dvd_one.1 hd) h1
  | q :: l, hl, hd, h1 => by
    by_cases hq : q ∣ n
    · exact ⟨q, List.mem_cons_self, hq⟩
    · have hc := small_coprime (hl q List.mem_cons_self).1 (hl q List.mem_cons_self).2 n hq
      obtain ⟨r, hr, hrn⟩ := some_q n l (fun r hr => hl r (List.mem_cons_of_mem _ hr)) (hc.dvd_of_dvd_mul_left hd) h1
      exact ⟨r, List.mem_cons_of_mem _ hr, hrn⟩

/-- No lesser power of 37 is 1. -/
theorem order37 (M : Nat) (hMe : M = 2305843009213693950) (d : Nat) (h0 : 0 < d) (hd : d < M) : 37 ^ d % 2305843009213693951 ≠ 1 := by
  intro h
  have hM : 37 ^ M % 2305843009213693951 = 1 := by rw [← pq_eq 37 61 _ (by rw [hMe]; decide), hMe]; exact m_pow
  have hg := pow_gcd 37 2305843009213693951 d M h hM
  obtain ⟨g, hgd⟩ : ∃ g, Nat.gcd d M = g := ⟨_, rfl⟩
  rw [hgd] at hg
  have hgM : g ∣ M := hgd ▸ Nat.gcd_dvd_right _ _
  have hgl : g ≤ d := hgd ▸ Nat.gcd_le_left _ h0
  obtain ⟨k, hk⟩ := hgM
  have hk1 : k ≠ 1 := fun e => by subst e; omega
  obtain ⟨q, hq, c, hc⟩ := some_q k qs (fun q hq => by
    have := List.all_eq_true.1 qs_small q hq
    simpa only [Bool.and_eq_true, decide_eq_true_eq] using this) (by rw [qs_prod, ← hMe]; exact ⟨g, by rw [hk, Nat.mul_comm]⟩) hk1
  have hq0 : 0 < q := by
    have := List.all_eq_true.1 qs_small q hq
    simp only [Bool.and_eq_true, decide_eq_true_eq] at this
    exact this.1
  have he : M / q = g * c := by
    rw [hk, hc, Nat.mul_left_comm, Nat.mul_div_cancel_left _ hq0]
  have hp := List.all_eq_true.1 qs_pow q hq
  rw [← hMe, pq_eq 37 61 _ (Nat.lt_of_le_of_lt (Nat.div_le_self _ _) (by rw [hMe]; decide)), he, Nat.pow_mul, Nat.pow_mod, hg, ← Nat.pow_mod, Nat.one_pow] at hp
  simp at hp

/-- Each rest but 0 is one of a power of 37. -/
theorem power37 (M : Nat) (hMe : M = 2305843009213693950) (a : Nat) (ha : a % 2305843009213693951 ≠ 0) : ∃ i, i < M ∧ 37 ^ i % 2305843009213693951 = a % 2305843009213693951 ∧ 37 ^ (M - i) * 37 ^ i % 2305843009213693951 = 1 ∧ 37 ^ M % 2305843009213693951 = 1 := by
  have hM : 37 ^ M % 2305843009213693951 = 1 := by rw [← pq_eq 37 61 _ (by rw [hMe]; decide), hMe]; exact m_pow
  have hinv : ∀ i, i ≤ M → 37 ^ (M - i) * 37 ^ i % 2305843009213693951 = 1 := fun i hi => by
    rw [← Nat.pow_add, Nat.sub_add_cancel hi]; exact hM
  have hne : ∀ i, i < M → 37 ^ i % 2305843009213693951 ≠ 0 := fun i hi h => by
    have := hinv i (Nat.le_of_lt hi)
    rw [Nat.mul_mod, h] at this
    simp at this
  have hle : ∀ i j, i < j → j < M → 37 ^ i % 2305843009213693951 ≠ 37 ^ j % 2305843009213693951 := fun i j hij hj h => by
    refine order37 M hMe (j - i) (by omega) (by omega) ?_
    have h1 := hinv i (by omega)
    have h2 : 37 ^ j = 37 ^ (j - i) * 37 ^ i := by rw [← Nat.pow_add, Nat.sub_add_cancel (Nat.le_of_lt hij)]
    have h3 : 37 ^ (M - i) * 37 ^ j % 2305843009213693951 = 1 := by
      rw [Nat.mul_mod, ← h, ← Nat.mul_mod]; exact h1
    rw [h2, Nat.mul_left_comm, Nat.mul_mod, h1, Nat.mul_one, Nat.mod_mod] at h3
    exact h3
  obtain ⟨i, hi, he⟩ := onto_of_inj M (fun i => 37 ^ i % 2305843009213693951 - 1)
    (fun i hi => by
      have h1 := Nat.mod_lt (37 ^ i) (show 2305843009213693951 > 0 by decide)
      have h2 := hne i hi
      show 37 ^ i % 2305843009213693951 - 1 < _
      generalize 37 ^ i % 2305843009213693951 = z at *
      omega)
    (fun i j hi hj h => by
      have h1 := hne i hi
      have h2 := hne j hj
      have h3 : 37 ^ i % 2305843009213693951 = 37 ^ j % 2305843009213693951 := by
        replace h : 37 ^ i % 2305843009213693951 - 1 = 37 ^ j % 2305843009213693951 - 1 := h
        generalize 37 ^ i % 2305843009213693951 = z at *
        generalize 37 ^ j % 2305843009213693951 = t at *
        omega
      rcases Nat.lt_trichotomy i j with h4 | h4 | h4
      · exact absurd h3 (hle i j h4 hj)
      · exact h4
      · exact absurd h3.symm (hle j i h4 hi))
    (a % 2305843009213693951 - 1) (by
      have h1 := Nat.mod_lt a (show 2305843009213693951 > 0 by decide)
      generalize a % 2305843009213693951 = z at *
      omega)
  have h2 := hne i hi
  have h3 : 37 ^ i % 2305843009213693951 = a % 2305843009213693951 := by
    replace he : 37 ^ i % 2305843009213693951 - 1 = a % 2305843009213693951 - 1 := he
    generalize 37 ^ i % 2305843009213693951 = z at *
    generalize a % 2305843009213693951 = t at *
    omega
  exact ⟨i, hi, h3, hinv i (Nat.le_of_lt hi), hM⟩

/-- Each rest but 0 has a factor that makes it 1. -/
theorem inverse (M : Nat) (hMe : M = 2305843009213693950) (a : Nat) (ha : a % 2305843009213693951 ≠ 0) : ∃ b, b * a % 2305843009213693951 = 1 := by
  obtain ⟨i, hi, h3, h4, -⟩ := power37 M hMe a ha
  refine ⟨37 ^ (M - i), ?_⟩
  rw [Nat.mul_mod, ← h3, ← Nat.mul_mod]
  exact h4

/-- Fermat: each rest but 0, to the power of the prime less 1, is 1. -/
theorem fermat (M : Nat) (hMe : M = 2305843009213693950) (a : Nat) (ha : a % 2305843009213693951 ≠ 0) : a ^ M % 2305843009213693951 = 1 := by
  obtain ⟨i, -, h3, -, h5⟩ := power37 M hMe a ha
  rw [Nat.pow_mod, ← h3, ← Nat.pow_mod, ← Nat.pow_mul, Nat.mul_comm, Nat.pow_mul, Nat.pow_mod, h5, Nat.one_pow]

/-- Two numbers' products by one factor that isn't 0 have unlike rests, unless the numbers have like ones. -/
theorem mul_back {a x y : Nat} (ha : a % pr ≠ 0) (hx : x < pr) (hy : y < pr) (h : mulM a x = mulM a y) : x = y := by
  unfold mulM pr at *
  obtain ⟨b, hb⟩ := inverse _ rfl a ha
  have k : ∀ z, z < 2305843009213693951 → b * (a * z) % 2305843009213693951 = z := fun z hz => by
    rw [← Nat.mul_assoc, Nat.mul_mod, hb, Nat.one_mul, Nat.mod_mod, Nat.mod_eq_of_lt hz]
  rw [← k x hx, ← k y hy, Nat.mul_mod, h, ← Nat.mul_mod]

end Go.Proofs.Wm
