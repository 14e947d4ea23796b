/- Two unlike keys' rests: just one seed makes these of them. -/
import Derived.Test.YtgaapahhmpiibaaWPrime
namespace Go.Proofs.Wm

/-- The inverse that is a power. -/
theorem inv_pow (M : Nat) (hM : M = 2305843009213693949) (a : Nat) (ha : a % 2305843009213693951 ≠ 0) : a ^ M % 2305843009213693951 * a % 2305843009213693951 = 1 := by
  rw [Nat.mod_mul_mod, ← Nat.pow_succ]
  exact fermat (M + 1) (by omega) a ha

/-- A rest of a difference. -/
theorem sub_rest {x y : Nat} (hx : x < pr) (hy : y < pr) : ∃ s : Int, (addM x (pr - y) : Int) = (x : Int) - y + 2305843009213693951 * s := by
  unfold addM pr at *
  by_cases h : y ≤ x
  · exact ⟨0, by omega⟩
  · exact ⟨1, by omega⟩

theorem sub_ne {x y : Nat} (hx : x < pr) (hy : y < pr) (h : x ≠ y) : addM x (pr - y) ≠ 0 := by
  unfold addM pr at *
  omega

/-- What is left by the prime: the number less some times it. -/
theorem rest_form (n : Nat) : ∃ t : Int, ((n % 2305843009213693951 : Nat) : Int) = (n : Int) + 2305843009213693951 * t := ⟨-((n / 2305843009213693951 : Nat) : Int), by omega⟩
theorem rest_back (n : Nat) (v : Nat) (hv : v < 2305843009213693951) (t : Int) (h : (n : Int) = v + 2305843009213693951 * t) : n % 2305843009213693951 = v := by omega

theorem solve_ok (M : Nat) (hM : M = 2305843009213693949) {x y u v : Nat} (hx : x < pr) (hy : y < pr) (hu : u < pr) (hv : v < pr) (hxy : x ≠ y) (huv : u ≠ v) {A B : Nat}
    (hA : A = mulM (addM u (pr - v)) ((addM x (pr - y)) ^ M % 2305843009213693951)) (hB : B = addM u (pr - mulM A x)) :
    (1 ≤ A ∧ A < 2305843009213693951 ∧ B < 2305843009213693951) ∧ addM (mulM A x) B = u ∧ addM (mulM A y) B = v := by
  have d1 := sub_ne hx hy hxy
  have d2 := sub_ne hu hv huv
  obtain ⟨s1, e1⟩ := sub_rest hx hy
  obtain ⟨s2, e2⟩ := sub_rest hu hv
  have l1 := addM_lt x (pr - y)
  have l2 := addM_lt u (pr - v)
  generalize addM x (pr - y) = dx at *
  generalize addM u (pr - v) = du at *
  have hAl : A < pr := hA ▸ mulM_lt _ _
  have hBl : B < pr := hB ▸ addM_lt _ _
  have hi := inv_pow M hM dx (by rw [show dx % 2305843009213693951 = dx from Nat.mod_eq_of_lt l1]; exact d1)
  generalize dx ^ M % 2305843009213693951 = i at *
  -- A * dx leaves du
  have hAd : A * dx % 2305843009213693951 = du := by
    rw [hA]
    unfold mulM pr
    rw [Nat.mod_mul_mod, Nat.mul_assoc, Nat.mul_mod, hi, Nat.mul_one, Nat.mod_mod]
    exact Nat.mod_eq_of_lt l2
  have hA0 : A ≠ 0 := fun h => by rw [h, Nat.zero_mul] at hAd; exact d2 hAd.symm
  obtain ⟨t1, f1⟩ := rest_form (A * dx)
  rw [hAd] at f1
  obtain ⟨t2, f2⟩ := rest_form (A * x)
  obtain ⟨t3, f3⟩ := sub_rest hu (mulM_lt A x)
  rw [← hB] at f3
  have g1 : ((A * dx : Nat) : Int) = (A * x : Nat) - (A * y : Nat) + 2305843009213693951 * (A * s1) := by
    rw [Int.natCast_mul, e1, Int.mul_add, Int.mul_sub, Int.mul_left_comm, Int.natCast_mul, Int.natCast_mul]
  have hm : (mulM A x : Int) = (A * x : Nat) + 2305843009213693951 * t2 := f2
  have hax := mulM_lt A x
  obtain ⟨X, hX⟩ : ∃ X : Nat, A * x = X := ⟨_, rfl⟩
  obtain ⟨Y, hY⟩ : ∃ Y : Nat, A * y = Y := ⟨_, rfl⟩
  rw [hX, hY] at g1
  rw [hX] at hm
  obtain ⟨z, hz⟩ : ∃ z : Int, (A : Int) * s1 = z := ⟨_, rfl⟩
  rw [hz] at g1
  rw [g1] at f1
  refine ⟨⟨by omega, hAl, hBl⟩, ?_, ?_⟩
  · refine rest_back _ u hu t3 ?_
    rw [Int.natCast_add, f3]
    generalize (mulM A x : Int) = ax at *
    omega
  · obtain ⟨t4, f4⟩ := rest_form (A * y)
    refine rest_back _ v hv (t4 + t3 - t2 - s2 + z + t1) ?_
    rw [hY] at f4
    replace f4 : (mulM A y : Int) = (Y : Int) + 2305843009213693951 * t4 := by unfold mulM pr; rw [hY]; exact f4
    rw [Int.natCast_add, f3, hm, f4]
    clear hm f3 f4 hA hB hAd hX hY
    omega

theorem seeds_one {a b c d x y : Nat} (ha : a < pr) (hb : b < pr) (hc : c < pr) (hd : d < pr) (hx : x < pr) (hy : y < pr) (hxy : x ≠ y)
    (h1 : addM (mulM a x) b = addM (mulM c x) d) (h2 : addM (mulM a y) b = addM (mulM c y) d) : a = c ∧ b = d := by
  have key : ∀ z : Nat, addM (mulM a z) b = addM (mulM c z) d → ∃ t : Int, ((a * z : Nat) : Int) + b = (c * z : Nat) + d + 2305843009213693951 * t := fun z h => by
    have e1 : addM (mulM a z) b = (a * z + b) % 2305843009213693951 := by unfold addM mulM pr; rw [Nat.mod_add_mod]
    have e2 : addM (mulM c z) d = (c * z + d) % 2305843009213693951 := by unfold addM mulM pr; rw [Nat.mod_add_mod]
    rw [e1, e2] at h
    obtain ⟨t1, f1⟩ := rest_form (a * z + b)
    obtain ⟨t2, f2⟩ := rest_form (c * z + d)
    rw [h, f2] at f1
    exact ⟨t2 - t1, by rw [Int.natCast_add, Int.natCast_add] at f1; omega⟩
  obtain ⟨t1, f1⟩ := key x h1
  obtain ⟨t2, f2⟩ := key y h2
  have hac : a = c := by
    obtain ⟨s, e⟩ := sub_rest hx hy
    have hn := sub_ne hx hy hxy
    have hl := addM_lt x (pr - y)
    generalize addM x (pr - y) = D at *
    refine mul_back (a := D) (by rw [show D % pr = D from Nat.mod_eq_of_lt hl]; exact hn) ha hc ?_
    have g : ∀ q : Nat, ((D * q : Nat) : Int) = (q * x : Nat) - (q * y : Nat) + 2305843009213693951 * (s * q) := fun q => by
      rw [Int.natCast_mul, e, Int.add_mul, Int.sub_mul, Int.mul_assoc, Int.natCast_mul, Int.natCast_mul, Int.mul_comm (x : Int), Int.mul_comm (y : Int)]
    have ga := g a
    have gc := g c
    obtain ⟨t3, f3⟩ := rest_form (D * c)
    unfold mulM
    refine rest_back _ _ (Nat.mod_lt _ (by decide)) (t1 - t2 + s * a - s * c - t3) ?_
    show ((D * a : Nat) : Int) = ((D * c % 2305843009213693951 : Nat) : Int) + _
    rw [f3, ga, gc]
    generalize s * (a : Int) = sa at *
    generalize s * (c : Int) = sc at *
    generalize ((a * x : Nat) : Int) = ax at *
    generalize ((a * y : Nat) : Int) = ay at *
    generalize ((c * x : Nat) : Int) = cx at *
    generalize ((c * y : Nat) : Int) = cy at *
    clear f3 e ga gc g h1 h2 key
    omega
  subst hac
  refine ⟨rfl, ?_⟩
  unfold pr at hb hd
  clear h1 h2 key f2
  omega

end Go.Proofs.Wm
