/- The contracts of hash: May, Key, Column. · The contract of hash.Column. · 2^61 less 1 lets every factor that it doesn't divide be taken back: the powers of 37 are all its rests but 0. · Two unlike keys' rests: just one seed makes these of them. -/
import Derived.Test.YthncmjimfkbofaaJ12
import Derived.Test.YthncmjimfkbofaaJ10
import Derived.Laws.StructEq
import Derived.KernelRfl
section
/- The contracts of hash: May, Key, Column. -/
namespace Go.Proofs.Ythncmjimfkbofaa
open Go.RowKit Go.Proofs.Wm Go.Proofs.Rf

/-- Whether a seed, and a key, may be. -/
def may (a b : Nat) : Bool := decide (1 ≤ a) && decide (a < 2305843009213693951) && decide (b < 2305843009213693951)
def keyB (x : Nat) : Bool := decide (x < 2305843009213693951)
/-- The column. -/
def col (a b x : Nat) (k : Int) : Int := if k < 1 then 0 else if may a b = false then 0 else if keyB x = false then 0 else ((addM (mulM a x) b % k.toNat : Nat) : Int)

theorem may_iff {a b : Nat} : (may a b = true) ↔ (1 ≤ a ∧ a < 2305843009213693951 ∧ b < 2305843009213693951) := by
  unfold may
  simp [and_assoc]
theorem may_not {a b : Nat} : (may a b = false) ↔ ¬ (1 ≤ a ∧ a < 2305843009213693951 ∧ b < 2305843009213693951) := by
  rw [← may_iff, Bool.not_eq_true]
theorem key_any (x : Nat) (w : World) :
    Calls Try.prog 65 #[.int .u64 x] w fun e w' => e = .returned (.bool (keyB x)) ∧ w = w' := by
  go_enter Try.func65, Try.ntmps65
  go_wp2
  go_ret
  refine ⟨congrArg (fun z => Ending.returned (.bool z)) ?_, rfl⟩
  unfold keyB
  rw [decide_eq_decide]
  omega

theorem seed_type : Try.prog.underlying 47 = some (.struct (Try.prog.fieldsOf 47)) := by kernel_rfl
theorem seed_held : Try.prog.stoodInHeld 47 = false := by kernel_rfl
theorem seed_eq (d : Nat) (a b c e : Int) (w : World) : (Op.equalIn (d + 2) 47 (.agg #[.int .u64 a, .int .u64 b]) (.agg #[.int .u64 c, .int .u64 e])).run Try.prog w = .ok (a == c && b == e) w := by
  rw [run_equalIn_agg w (d + 1) _ _ _ seed_type seed_held]
  simp [go_sem, Try.underlying47, Try.underlying22]
  by_cases h1 : a = c <;> by_cases h2 : b = e <;> simp [h1, h2]
theorem seed_eql (a b c e : Int) (w : World) : (binOp .eql 47 (.agg #[.int .u64 a, .int .u64 b]) (.agg #[.int .u64 c, .int .u64 e])).run Try.prog w = .ok (.bool (a == c && b == e)) w := by
  rw [run_eql_struct, show (10000 : Nat) = 9998 + 2 from rfl, seed_eq]
  rfl
theorem seed_neq (a b c e : Int) (w : World) : (binOp .neq 47 (.agg #[.int .u64 a, .int .u64 b]) (.agg #[.int .u64 c, .int .u64 e])).run Try.prog w = .ok (.bool (!(a == c && b == e))) w := by
  rw [run_neq_struct, show (10000 : Nat) = 9998 + 2 from rfl, seed_eq]
  rfl
theorem seed_guard (op : BinOp) (x y : Operand) (xs ys : Array Value) (w : World) : (eqGuard op 47 x y (.agg xs) (.agg ys)).run Try.prog w = .ok () w := run_eqGuard_agg w op _ x y xs ys (by kernel_rfl)

attribute [local go_sem] seed_eql seed_neq seed_guard

theorem may_any (a b : Nat) (ha : a < 18446744073709551616) (hb : b < 18446744073709551616) (w : World) :
    Calls Try.prog 64 #[.agg #[.int .u64 a, .int .u64 b]] w fun e w' => e = .returned (.bool (may a b)) ∧ Below w.heap.size w w' := by
  go_enter Try.func64, Try.ntmps64
  go_upto_region 3 with (fail)
  obtain ⟨ra, hra⟩ : ∃ ra, (a : Int) % 2305843009213693951 = ra := ⟨_, rfl⟩
  obtain ⟨rb, hrb⟩ : ∃ rb, (b : Int) % 2305843009213693951 = rb := ⟨_, rfl⟩
  rw [hra, hrb]
  obtain ⟨e1, h1⟩ : ∃ e, ((a : Int) == ra) = e := ⟨_, rfl⟩
  obtain ⟨e2, h2⟩ : ∃ e, ((b : Int) == rb) = e := ⟨_, rfl⟩
  obtain ⟨e3, h3⟩ : ∃ e, ((a : Int) == 0) = e := ⟨_, rfl⟩
  have hm : may a b = (e1 && e2 && !e3) := by
    subst h1 h2 h3
    rw [Bool.eq_iff_iff, may_iff]
    simp
    omega
  have HM := Lib.hid hm
  clear hra hrb hm
  cases e1 <;> cases e2 <;> cases e3
  all_goals
    go_wp2
    go_ret
    exact ⟨congrArg (fun z => Ending.returned (.bool z)) HM.out.symm, (((Below.refl _ w).alloc (Nat.le_refl _) _).alloc (by simp) _).alloc (by simp; omega) _⟩

end Go.Proofs.Ythncmjimfkbofaa
end
section
/- The contract of hash.Column. -/
namespace Go.Proofs.Ythncmjimfkbofaa
open Go.RowKit Go.Proofs.Wm Go.Proofs.Rf

theorem lt64 {x : Nat} (h : x < pr) : x < 18446744073709551616 := Nat.lt_trans h pr_lt
theorem box_cells {w wn : World} {a b : Value} {t : TypeId} (h : Below (w.alloc (.cells #[a, b] t)).heap.size (w.alloc (.cells #[a, b] t)) wn) : wn.cell? ⟨w.heap.size, 0, none⟩ = some a ∧ wn.cell? ⟨w.heap.size, 1, none⟩ = some b := by
  constructor
  · rw [h.cell (p := ⟨w.heap.size, 0, none⟩) (by simp), World.cell?_alloc_at _ _ _ _ rfl]; rfl
  · rw [h.cell (p := ⟨w.heap.size, 1, none⟩) (by simp), World.cell?_alloc_at _ _ _ _ rfl]; rfl
theorem box_lt {w wn : World} {a b : Value} {t : TypeId} (h : Below (w.alloc (.cells #[a, b] t)).heap.size (w.alloc (.cells #[a, b] t)) wn) : w.heap.size < wn.heap.size := by
  have := h.size
  simp at this
  omega

set_option maxRecDepth 100000 in
set_option maxHeartbeats 1000000 in
theorem column_any (a b x : Nat) (ha : a < 18446744073709551616) (hb : b < 18446744073709551616) (hx : x < 18446744073709551616) (k : Int) (k0 : -9223372036854775808 ≤ k) (k1 : k ≤ 9223372036854775807) (w : World) :
    Calls Try.prog 45 #[.agg #[.int .u64 a, .int .u64 b], .int .u64 x, .int .i64 k] w fun e w' => e = .returned (.int .i64 (col a b x k)) ∧ Below w.heap.size w w' := by
  obtain ⟨m, hm⟩ : ∃ m, may a b = m := ⟨_, rfl⟩
  obtain ⟨y, hy⟩ : ∃ y, keyB x = y := ⟨_, rfl⟩
  have m1 := fun W => may_any a b ha hb W
  have m2 := fun W => key_any x W
  have m3 := fun W => mulMod_any a x ha hx W
  have m4 := fun W => addMod_any (mulM a x) b (lt64 (mulM_lt _ _)) hb W
  rw [hm] at m1
  rw [hy] at m2
  have hc : col a b x k = if k < 1 then 0 else if m = false then 0 else if y = false then 0 else ((addM (mulM a x) b % k.toNat : Nat) : Int) := by unfold col; rw [hm, hy]
  have hq := addM_lt (mulM a x) b
  obtain ⟨p, hp⟩ : ∃ p, mulM a x = p := ⟨_, rfl⟩
  rw [hp] at m3 m4 hc hq
  obtain ⟨q, hqe⟩ : ∃ q, addM p b = q := ⟨_, rfl⟩
  rw [hqe] at m4 hc hq
  unfold pr at hq
  have M1 := Lib.hid m1
  have M2 := Lib.hid m2
  have M3 := Lib.hid m3
  have M4 := Lib.hid m4
  rw [hc]
  clear m1 m2 m3 m4 hm hy hp hqe hc
  have hB := below_rowW w (.cells #[.int .u64 a, .int .u64 b] 47)
  by_cases h1 : k < 1
  · rw [if_pos h1]
    go_enter Try.func45, Try.ntmps45
    go_wp2
    go_ret
    exact ⟨rfl, below_rowW _ _⟩
  · rw [if_neg h1]
    cases m
    · rw [if_pos rfl]
      go_enter Try.func45, Try.ntmps45
      go_wp2_with (first
        | (go_at_call 64; refine (M1.out _).mono ?_; rintro e wn ⟨rfl, hn⟩; obtain ⟨c0, c1⟩ := box_cells hn; have hlt := box_lt hn; replace hB := hB.trans (hn.mono hB.size); clear hn)
        | (go_at_call 65; refine (M2.out _).mono ?_; rintro e wm ⟨rfl, rfl⟩))
      go_ret
      exact ⟨rfl, hB⟩
    · rw [if_neg (by decide)]
      cases y
      · rw [if_pos rfl]
        go_enter Try.func45, Try.ntmps45
        go_wp2_with (first
        | (go_at_call 64; refine (M1.out _).mono ?_; rintro e wn ⟨rfl, hn⟩; obtain ⟨c0, c1⟩ := box_cells hn; have hlt := box_lt hn; replace hB := hB.trans (hn.mono hB.size); clear hn)
        | (go_at_call 65; refine (M2.out _).mono ?_; rintro e wm ⟨rfl, rfl⟩))
        go_ret
        exact ⟨rfl, hB⟩
      · rw [if_neg (by decide)]
        have hv : (q : Int) % k = ((q % k.toNat : Nat) : Int) := by
          rw [Int.natCast_emod, Int.toNat_of_nonneg (by omega)]
        have hw : -9223372036854775808 ≤ (q : Int) % k ∧ (q : Int) % k ≤ 9223372036854775807 := by
          have h2 := Int.emod_nonneg (q : Int) (show k ≠ 0 by omega)
          have h3 := Int.emod_lt_of_pos (q : Int) (show 0 < k by omega)
          generalize (q : Int) % k = z at *
          omega
        have HV := Lib.hid hv
        have HW := Lib.hid hw
        clear hv hw
        go_enter Try.func45, Try.ntmps45
        go_upto_region 3 with (first
        | (go_at_call 64; refine (M1.out _).mono ?_; rintro e wn ⟨rfl, hn⟩; obtain ⟨c0, c1⟩ := box_cells hn; have hlt := box_lt hn; replace hB := hB.trans (hn.mono hB.size); clear hn)
        | (go_at_call 65; refine (M2.out _).mono ?_; rintro e wm ⟨rfl, rfl⟩))
        have HLT := Lib.hid hlt
        refine region_all (fr := ?frA) (fun i us W => match i with
            | 0 => us 0 = .pointer (some ⟨w.heap.size, 0, none⟩)
            | 1 => us 1 = .int .u64 a
            | 2 => us 2 = .int .u64 x
            | 3 => us 3 = .int .u64 p
            | 4 => us 4 = .pointer (some ⟨w.heap.size, 1, none⟩)
            | 5 => us 5 = .int .u64 b
            | 6 => us 6 = .int .u64 q
            | 7 => us 7 = .int .u64 q
            | _ => True) (fun _ W W' => Grows W W') (fun W => Below wn.heap.size wn W) rfl ?hBA ?hfrA ?hlocA ?hstA ?hG0A ?hGA ?hopA ?hendA
        case hBA => kernel_rfl
        case hfrA =>
          intro us
          simp only [List.length_cons, List.length_nil, Nat.zero_add, Nat.reduceAdd, putO, dstO]
          go_simp
          rfl
        case hlocA =>
          intro i us us' W h hf
          match i with
          | 0 =>
            have e0 := h 0 (.inl rfl)
            try dsimp only at hf ⊢
            rw [e0] at hf
            exact hf
          | 1 =>
            have e1 := h 1 (.inl rfl)
            try dsimp only at hf ⊢
            rw [e1] at hf
            exact hf
          | 2 =>
            have e2 := h 2 (.inl rfl)
            try dsimp only at hf ⊢
            rw [e2] at hf
            exact hf
          | 3 =>
            have e3 := h 3 (.inl rfl)
            try dsimp only at hf ⊢
            rw [e3] at hf
            exact hf
          | 4 =>
            have e4 := h 4 (.inl rfl)
            try dsimp only at hf ⊢
            rw [e4] at hf
            exact hf
          | 5 =>
            have e5 := h 5 (.inl rfl)
            try dsimp only at hf ⊢
            rw [e5] at hf
            exact hf
          | 6 =>
            have e6 := h 6 (.inl rfl)
            try dsimp only at hf ⊢
            rw [e6] at hf
            exact hf
          | 7 =>
            have e7 := h 7 (.inl rfl)
            try dsimp only at hf ⊢
            rw [e7] at hf
            exact hf
          | n + 8 => trivial
        case hstA =>
          intro i j us W W' hne hw hi hj hE hf
          match i with
          | 0 => exact hf
          | 1 => exact hf
          | 2 => exact hf
          | 3 => exact hf
          | 4 => exact hf
          | 5 => exact hf
          | 6 => exact hf
          | 7 => exact hf
          | n + 8 => trivial
        case hG0A =>
          exact (Below.refl _ wn).drew
        case hGA =>
          intro j W W' hE hg
          exact hg.trans (hE.mono hg.size)
        case hopA =>
          intro i hi us W hg hd hq
          match i, hi with
          | 0, _ =>
            clear hd hq
            refine all_value rfl rfl (.pointer (some ⟨w.heap.size, 0, none⟩)) W (by go_simp) ?_ ?_
            · exact Grows.refl _
            · rfl
          | 1, _ =>
            have h0 : us 0 = .pointer (some ⟨w.heap.size, 0, none⟩) := hd 0 (by kernel_rfl)
            clear hd hq
            have c := (hg.cell (p := ⟨w.heap.size, 0, none⟩) HLT.out).trans c0
            refine all_value rfl rfl (.int .u64 a) W (by go_simp) ?_ ?_
            · exact Grows.refl _
            · rfl
          | 2, _ =>
            clear hd hq
            refine all_value rfl rfl (.int .u64 x) W (by go_simp) ?_ ?_
            · exact Grows.refl _
            · rfl
          | 3, _ =>
            have h1 : us 1 = .int .u64 a := hd 1 (by kernel_rfl)
            have h2 : us 2 = .int .u64 x := hd 2 (by kernel_rfl)
            clear hd hq
            refine all_call rfl rfl 67 #[.int .u64 a, .int .u64 x] (by go_simp) ?_
            exact (M3.out _).mono fun _ W' ⟨he, hb⟩ => ⟨_, he, hb, rfl⟩
          | 4, _ =>
            clear hd hq
            refine all_value rfl rfl (.pointer (some ⟨w.heap.size, 1, none⟩)) W (by go_simp) ?_ ?_
            · exact Grows.refl _
            · rfl
          | 5, _ =>
            have h4 : us 4 = .pointer (some ⟨w.heap.size, 1, none⟩) := hd 4 (by kernel_rfl)
            clear hd hq
            have c := (hg.cell (p := ⟨w.heap.size, 1, none⟩) HLT.out).trans c1
            refine all_value rfl rfl (.int .u64 b) W (by go_simp) ?_ ?_
            · exact Grows.refl _
            · rfl
          | 6, _ =>
            have h3 : us 3 = .int .u64 p := hd 3 (by kernel_rfl)
            have h5 : us 5 = .int .u64 b := hd 5 (by kernel_rfl)
            clear hd hq
            refine all_call rfl rfl 66 #[.int .u64 p, .int .u64 b] (by go_simp) ?_
            exact (M4.out _).mono fun _ W' ⟨he, hb⟩ => ⟨_, he, hb, rfl⟩
          | 7, _ =>
            have h6 : us 6 = .int .u64 q := hd 6 (by kernel_rfl)
            clear hd hq
            refine all_value rfl rfl (.int .u64 q) W (by go_simp) ?_ ?_
            · exact Grows.refl _
            · rfl
          | n + 8, h => exact absurd h (by simp)
        case hendA =>
          intro us W hg hf
          have h7 : us 7 = .int .u64 q := hf 7 (by simp)
          clear hf
          rw [h7]
          have HG := Lib.hid (hB.trans (hg.mono hB.size))
          clear hg h7 hB
          go_wp2
          go_ret
          exact ⟨congrArg (fun z => Ending.returned (.int .i64 z)) ((IntWalk.wrap64_in _ HW.out).trans HV.out), HG.out⟩

end Go.Proofs.Ythncmjimfkbofaa
end
section
/- 2^61 less 1 lets every factor that it doesn't divide be taken back: the powers of 37 are all its rests but 0. -/
namespace Go.Proofs.Wm

/-- Powers' rests, by halves of the exponent. -/
def sq (a e h : Nat) : Nat := if e % 2 = 0 then h * h % 2305843009213693951 else h * h % 2305843009213693951 * a % 2305843009213693951
def pq (a : Nat) : Nat → Nat → Nat
  | 0, _ => 1
  | f + 1, e => sq a e (pq a f (e / 2))

theorem pq_eq (a : Nat) : ∀ f e, e < 2 ^ f → pq a f e = a ^ e % 2305843009213693951
  | 0, e, h => by
    have : e = 0 := by simpa using h
    subst this
    rfl
  | f + 1, e, h => by
    have ih := pq_eq a f (e / 2) (by rw [Nat.pow_succ] at h; omega)
    rw [pq, ih]
    unfold sq
    have hm : ∀ x : Nat, x % 2305843009213693951 * (x % 2305843009213693951) % 2305843009213693951 = x * x % 2305843009213693951 := fun x => (Nat.mul_mod x x _).symm
    rw [hm, ← Nat.pow_add]
    by_cases h2 : e % 2 = 0
    · rw [if_pos h2, show e / 2 + e / 2 = e by omega]
    · rw [if_neg h2, Nat.mod_mul_mod, ← Nat.pow_succ, show (e / 2 + e / 2).succ = e by omega]

/-- Powers that are 1: so is that of the exponents' greatest divisor. -/
theorem pow_gcd (a N m n : Nat) : a ^ m % N = 1 % N → a ^ n % N = 1 % N → a ^ Nat.gcd m n % N = 1 % N := by
  induction m, n using Nat.gcd.induction with
  | H0 n => intro _ h; rwa [Nat.gcd_zero_left]
  | H1 m n hm ih =>
    intro h1 h2
    rw [Nat.gcd_rec]
    refine ih ?_ h1
    have e : n = m * (n / m) + n % m := (Nat.div_add_mod n m).symm
    rw [e, Nat.pow_add, Nat.pow_mul, Nat.mul_mod, Nat.pow_mod (a ^ m), h1, ← Nat.pow_mod, Nat.one_pow, ← Nat.mul_mod, Nat.one_mul] at h2
    exact h2

/-- An injection of the numbers below n into themselves comes to each. -/
theorem onto_of_inj : ∀ (n : Nat) (f : Nat → Nat), (∀ i, i < n → f i < n) → (∀ i j, i < n → j < n → f i = f j → i = j) → ∀ y, y < n → ∃ i, i < n ∧ f i = y
  | 0, _, _, _, y, hy => absurd hy (by omega)
  | n + 1, f, hlt, hinj, y, hy => by
    -- g: as f, but where f i = n, f n
    have hg := onto_of_inj n (fun i => if f i = n then f n else f i)
      (fun i hi => by
        by_cases h : f i = n
        · simp only [h, if_true]
          have h1 := hlt n (by omega)
          have h2 : f n ≠ n := fun e => absurd (hinj i n (by omega) (by omega) (h.trans e.symm)) (by omega)
          omega
        · simp only [h, if_false]
          have h1 := hlt i (by omega)
          omega)
      (fun i j hi hj h => by
        by_cases h1 : f i = n
        · by_cases h2 : f j = n
          · exact hinj i j (by omega) (by omega) (h1.trans h2.symm)
          · simp only [h1, h2, if_true, if_false] at h
            exact absurd (hinj n j (by omega) (by omega) h) (by omega)
        · by_cases h2 : f j = n
          · simp only [h1, h2, if_true, if_false] at h
            exact absurd (hinj i n (by omega) (by omega) h) (by omega)
          · simp only [h1, h2, if_false] at h
            exact hinj i j (by omega) (by omega) h)
    by_cases hyn : y = n
    · by_cases hfn : f n = n
      · exact ⟨n, by omega, by omega⟩
      · have h1 : f n < n := by have := hlt n (by omega); omega
        obtain ⟨i, hi, he⟩ := hg (f n) h1
        by_cases h : f i = n
        · exact ⟨i, by omega, by omega⟩
        · simp only [h, if_false] at he
          exact absurd (hinj i n (by omega) (by omega) he) (by omega)
    · obtain ⟨i, hi, he⟩ := hg y (by omega)
      by_cases h : f i = n
      · simp only [h, if_true] at he
        exact ⟨n, by omega, he⟩
      · simp only [h, if_false] at he
        exact ⟨i, by omega, he⟩

/-- A small prime: what it doesn't divide has no divisor with it. -/
def smallB (q : Nat) : Bool := (List.range q).all fun d => d == 0 || Nat.gcd d q == 1
theorem small_coprime {q : Nat} (hq : 0 < q) (h : smallB q = true) (n : Nat) (hn : ¬ q ∣ n) : Nat.Coprime n q := by
  have h1 : n % q ≠ 0 := fun e => hn (Nat.dvd_of_mod_eq_zero e)
  have h2 := List.all_eq_true.1 h (n % q) (List.mem_range.2 (Nat.mod_lt _ hq))
  simp only [Bool.or_eq_true, beq_iff_eq] at h2
  rcases h2 with h2 | h2
  · exact absurd h2 h1
  · unfold Nat.Coprime
    rw [Nat.gcd_comm, Nat.gcd_rec]
    exact h2

def qs : List Nat := [2, 3, 3, 5, 5, 7, 11, 13, 31, 41, 61, 151, 331, 1321]
theorem qs_small : qs.all (fun q => decide (0 < q) && smallB q) = true := by kernel_rfl
def prodL : List Nat → Nat
  | [] => 1
  | q :: l => q * prodL l
theorem qs_prod : prodL qs = 2305843009213693950 := by kernel_rfl
theorem qs_pow : qs.all (fun q => pq 37 61 (2305843009213693950 / q) != 1) = true := by kernel_rfl
theorem m_pow : pq 37 61 2305843009213693950 = 1 := by kernel_rfl

theorem some_q (n : Nat) : ∀ l : List Nat, (∀ q ∈ l, 0 < q ∧ smallB q = true) → n ∣ prodL l → n ≠ 1 → ∃ q ∈ l, q ∣ n
  | [], _, hd, h1 => absurd (Nat.dvd_one.1 hd) h1
  | q :: l, hl, hd, h1 => by
    by_cases hq : q ∣ n
    · exact ⟨q, List.mem_cons_self, hq⟩
    · have hc := small_coprime (hl q List.mem_cons_self).1 (hl q List.mem_cons_self).2 n hq
      obtain ⟨r, hr, hrn⟩ := some_q n l (fun r hr => hl r (List.mem_cons_of_mem _ hr)) (hc.dvd_of_dvd_mul_left hd) h1
      exact ⟨r, List.mem_cons_of_mem _ hr, hrn⟩

/-- No lesser power of 37 is 1. -/
theorem order37 (M : Nat) (hMe : M = 2305843009213693950) (d : Nat) (h0 : 0 < d) (hd : d < M) : 37 ^ d % 2305843009213693951 ≠ 1 := by
  intro h
  have hM : 37 ^ M % 2305843009213693951 = 1 := by rw [← pq_eq 37 61 _ (by rw [hMe]; decide), hMe]; exact m_pow
  have hg := pow_gcd 37 2305843009213693951 d M h hM
  obtain ⟨g, hgd⟩ : ∃ g, Nat.gcd d M = g := ⟨_, rfl⟩
  rw [hgd] at hg
  have hgM : g ∣ M := hgd ▸ Nat.gcd_dvd_right _ _
  have hgl : g ≤ d := hgd ▸ Nat.gcd_le_left _ h0
  obtain ⟨k, hk⟩ := hgM
  have hk1 : k ≠ 1 := fun e => by subst e; omega
  obtain ⟨q, hq, c, hc⟩ := some_q k qs (fun q hq => by
    have := List.all_eq_true.1 qs_small q hq
    simpa only [Bool.and_eq_true, decide_eq_true_eq] using this) (by rw [qs_prod, ← hMe]; exact ⟨g, by rw [hk, Nat.mul_comm]⟩) hk1
  have hq0 : 0 < q := by
    have := List.all_eq_true.1 qs_small q hq
    simp only [Bool.and_eq_true, decide_eq_true_eq] at this
    exact this.1
  have he : M / q = g * c := by
    rw [hk, hc, Nat.mul_left_comm, Nat.mul_div_cancel_left _ hq0]
  have hp := List.all_eq_true.1 qs_pow q hq
  rw [← hMe, pq_eq 37 61 _ (Nat.lt_of_le_of_lt (Nat.div_le_self _ _) (by rw [hMe]; decide)), he, Nat.pow_mul, Nat.pow_mod, hg, ← Nat.pow_mod, Nat.one_pow] at hp
  simp at hp

/-- Each rest but 0 is one of a power of 37. -/
theorem power37 (M : Nat) (hMe : M = 2305843009213693950) (a : Nat) (ha : a % 2305843009213693951 ≠ 0) : ∃ i, i < M ∧ 37 ^ i % 2305843009213693951 = a % 2305843009213693951 ∧ 37 ^ (M - i) * 37 ^ i % 2305843009213693951 = 1 ∧ 37 ^ M % 2305843009213693951 = 1 := by
  have hM : 37 ^ M % 2305843009213693951 = 1 := by rw [← pq_eq 37 61 _ (by rw [hMe]; decide), hMe]; exact m_pow
  have hinv : ∀ i, i ≤ M → 37 ^ (M - i) * 37 ^ i % 2305843009213693951 = 1 := fun i hi => by
    rw [← Nat.pow_add, Nat.sub_add_cancel hi]; exact hM
  have hne : ∀ i, i < M → 37 ^ i % 2305843009213693951 ≠ 0 := fun i hi h => by
    have := hinv i (Nat.le_of_lt hi)
    rw [Nat.mul_mod, h] at this
    simp at this
  have hle : ∀ i j, i < j → j < M → 37 ^ i % 2305843009213693951 ≠ 37 ^ j % 2305843009213693951 := fun i j hij hj h => by
    refine order37 M hMe (j - i) (by omega) (by omega) ?_
    have h1 := hinv i (by omega)
    have h2 : 37 ^ j = 37 ^ (j - i) * 37 ^ i := by rw [← Nat.pow_add, Nat.sub_add_cancel (Nat.le_of_lt hij)]
    have h3 : 37 ^ (M - i) * 37 ^ j % 2305843009213693951 = 1 := by
      rw [Nat.mul_mod, ← h, ← Nat.mul_mod]; exact h1
    rw [h2, Nat.mul_left_comm, Nat.mul_mod, h1, Nat.mul_one, Nat.mod_mod] at h3
    exact h3
  obtain ⟨i, hi, he⟩ := onto_of_inj M (fun i => 37 ^ i % 2305843009213693951 - 1)
    (fun i hi => by
      have h1 := Nat.mod_lt (37 ^ i) (show 2305843009213693951 > 0 by decide)
      have h2 := hne i hi
      show 37 ^ i % 2305843009213693951 - 1 < _
      generalize 37 ^ i % 2305843009213693951 = z at *
      omega)
    (fun i j hi hj h => by
      have h1 := hne i hi
      have h2 := hne j hj
      have h3 : 37 ^ i % 2305843009213693951 = 37 ^ j % 2305843009213693951 := by
        replace h : 37 ^ i % 2305843009213693951 - 1 = 37 ^ j % 2305843009213693951 - 1 := h
        generalize 37 ^ i % 2305843009213693951 = z at *
        generalize 37 ^ j % 2305843009213693951 = t at *
        omega
      rcases Nat.lt_trichotomy i j with h4 | h4 | h4
      · exact absurd h3 (hle i j h4 hj)
      · exact h4
      · exact absurd h3.symm (hle j i h4 hi))
    (a % 2305843009213693951 - 1) (by
      have h1 := Nat.mod_lt a (show 2305843009213693951 > 0 by decide)
      generalize a % 2305843009213693951 = z at *
      omega)
  have h2 := hne i hi
  have h3 : 37 ^ i % 2305843009213693951 = a % 2305843009213693951 := by
    replace he : 37 ^ i % 2305843009213693951 - 1 = a % 2305843009213693951 - 1 := he
    generalize 37 ^ i % 2305843009213693951 = z at *
    generalize a % 2305843009213693951 = t at *
    omega
  exact ⟨i, hi, h3, hinv i (Nat.le_of_lt hi), hM⟩

/-- Each rest but 0 has a factor that makes it 1. -/
theorem inverse (M : Nat) (hMe : M = 2305843009213693950) (a : Nat) (ha : a % 2305843009213693951 ≠ 0) : ∃ b, b * a % 2305843009213693951 = 1 := by
  obtain ⟨i, hi, h3, h4, -⟩ := power37 M hMe a ha
  refine ⟨37 ^ (M - i), ?_⟩
  rw [Nat.mul_mod, ← h3, ← Nat.mul_mod]
  exact h4

/-- Fermat: each rest but 0, to the power of the prime less 1, is 1. -/
theorem fermat (M : Nat) (hMe : M = 2305843009213693950) (a : Nat) (ha : a % 2305843009213693951 ≠ 0) : a ^ M % 2305843009213693951 = 1 := by
  obtain ⟨i, -, h3, -, h5⟩ := power37 M hMe a ha
  rw [Nat.pow_mod, ← h3, ← Nat.pow_mod, ← Nat.pow_mul, Nat.mul_comm, Nat.pow_mul, Nat.pow_mod, h5, Nat.one_pow]

/-- Two numbers' products by one factor that isn't 0 have unlike rests, unless the numbers have like ones. -/
theorem mul_back {a x y : Nat} (ha : a % pr ≠ 0) (hx : x < pr) (hy : y < pr) (h : mulM a x = mulM a y) : x = y := by
  unfold mulM pr at *
  obtain ⟨b, hb⟩ := inverse _ rfl a ha
  have k : ∀ z, z < 2305843009213693951 → b * (a * z) % 2305843009213693951 = z := fun z hz => by
    rw [← Nat.mul_assoc, Nat.mul_mod, hb, Nat.one_mul, Nat.mod_mod, Nat.mod_eq_of_lt hz]
  rw [← k x hx, ← k y hy, Nat.mul_mod, h, ← Nat.mul_mod]

end Go.Proofs.Wm
end
section
/- Two unlike keys' rests: just one seed makes these of them. -/
namespace Go.Proofs.Wm

/-- The inverse that is a power. -/
theorem inv_pow (M : Nat) (hM : M = 2305843009213693949) (a : Nat) (ha : a % 2305843009213693951 ≠ 0) : a ^ M % 2305843009213693951 * a % 2305843009213693951 = 1 := by
  rw [Nat.mod_mul_mod, ← Nat.pow_succ]
  exact fermat (M + 1) (by omega) a ha

/-- A rest of a difference. -/
theorem sub_rest {x y : Nat} (hx : x < pr) (hy : y < pr) : ∃ s : Int, (addM x (pr - y) : Int) = (x : Int) - y + 2305843009213693951 * s := by
  unfold addM pr at *
  by_cases h : y ≤ x
  · exact ⟨0, by omega⟩
  · exact ⟨1, by omega⟩

theorem sub_ne {x y : Nat} (hx : x < pr) (hy : y < pr) (h : x ≠ y) : addM x (pr - y) ≠ 0 := by
  unfold addM pr at *
  omega

/-- What is left by the prime: the number less some times it. -/
theorem rest_form (n : Nat) : ∃ t : Int, ((n % 2305843009213693951 : Nat) : Int) = (n : Int) + 2305843009213693951 * t := ⟨-((n / 2305843009213693951 : Nat) : Int), by omega⟩
theorem rest_back (n : Nat) (v : Nat) (hv : v < 2305843009213693951) (t : Int) (h : (n : Int) = v + 2305843009213693951 * t) : n % 2305843009213693951 = v := by omega

theorem solve_ok (M : Nat) (hM : M = 2305843009213693949) {x y u v : Nat} (hx : x < pr) (hy : y < pr) (hu : u < pr) (hv : v < pr) (hxy : x ≠ y) (huv : u ≠ v) {A B : Nat}
    (hA : A = mulM (addM u (pr - v)) ((addM x (pr - y)) ^ M % 2305843009213693951)) (hB : B = addM u (pr - mulM A x)) :
    (1 ≤ A ∧ A < 2305843009213693951 ∧ B < 2305843009213693951) ∧ addM (mulM A x) B = u ∧ addM (mulM A y) B = v := by
  have d1 := sub_ne hx hy hxy
  have d2 := sub_ne hu hv huv
  obtain ⟨s1, e1⟩ := sub_rest hx hy
  obtain ⟨s2, e2⟩ := sub_rest hu hv
  have l1 := addM_lt x (pr - y)
  have l2 := addM_lt u (pr - v)
  generalize addM x (pr - y) = dx at *
  generalize addM u (pr - v) = du at *
  have hAl : A < pr := hA ▸ mulM_lt _ _
  have hBl : B < pr := hB ▸ addM_lt _ _
  have hi := inv_pow M hM dx (by rw [show dx % 2305843009213693951 = dx from Nat.mod_eq_of_lt l1]; exact d1)
  generalize dx ^ M % 2305843009213693951 = i at *
  -- A * dx leaves du
  have hAd : A * dx % 2305843009213693951 = du := by
    rw [hA]
    unfold mulM pr
    rw [Nat.mod_mul_mod, Nat.mul_assoc, Nat.mul_mod, hi, Nat.mul_one, Nat.mod_mod]
    exact Nat.mod_eq_of_lt l2
  have hA0 : A ≠ 0 := fun h => by rw [h, Nat.zero_mul] at hAd; exact d2 hAd.symm
  obtain ⟨t1, f1⟩ := rest_form (A * dx)
  rw [hAd] at f1
  obtain ⟨t2, f2⟩ := rest_form (A * x)
  obtain ⟨t3, f3⟩ := sub_rest hu (mulM_lt A x)
  rw [← hB] at f3
  have g1 : ((A * dx : Nat) : Int) = (A * x : Nat) - (A * y : Nat) + 2305843009213693951 * (A * s1) := by
    rw [Int.natCast_mul, e1, Int.mul_add, Int.mul_sub, Int.mul_left_comm, Int.natCast_mul, Int.natCast_mul]
  have hm : (mulM A x : Int) = (A * x : Nat) + 2305843009213693951 * t2 := f2
  have hax := mulM_lt A x
  obtain ⟨X, hX⟩ : ∃ X : Nat, A * x = X := ⟨_, rfl⟩
  obtain ⟨Y, hY⟩ : ∃ Y : Nat, A * y = Y := ⟨_, rfl⟩
  rw [hX, hY] at g1
  rw [hX] at hm
  obtain ⟨z, hz⟩ : ∃ z : Int, (A : Int) * s1 = z := ⟨_, rfl⟩
  rw [hz] at g1
  rw [g1] at f1
  refine ⟨⟨by omega, hAl, hBl⟩, ?_, ?_⟩
  · refine rest_back _ u hu t3 ?_
    rw [Int.natCast_add, f3]
    generalize (mulM A x : Int) = ax at *
    omega
  · obtain ⟨t4, f4⟩ := rest_form (A * y)
    refine rest_back _ v hv (t4 + t3 - t2 - s2 + z + t1) ?_
    rw [hY] at f4
    replace f4 : (mulM A y : Int) = (Y : Int) + 2305843009213693951 * t4 := by unfold mulM pr; rw [hY]; exact f4
    rw [Int.natCast_add, f3, hm, f4]
    clear hm f3 f4 hA hB hAd hX hY
    omega

theorem seeds_one {a b c d x y : Nat} (ha : a < pr) (hb : b < pr) (hc : c < pr) (hd : d < pr) (hx : x < pr) (hy : y < pr) (hxy : x ≠ y)
    (h1 : addM (mulM a x) b = addM (mulM c x) d) (h2 : addM (mulM a y) b = addM (mulM c y) d) : a = c ∧ b = d := by
  have key : ∀ z : Nat, addM (mulM a z) b = addM (mulM c z) d → ∃ t : Int, ((a * z : Nat) : Int) + b = (c * z : Nat) + d + 2305843009213693951 * t := fun z h => by
    have e1 : addM (mulM a z) b = (a * z + b) % 2305843009213693951 := by unfold addM mulM pr; rw [Nat.mod_add_mod]
    have e2 : addM (mulM c z) d = (c * z + d) % 2305843009213693951 := by unfold addM mulM pr; rw [Nat.mod_add_mod]
    rw [e1, e2] at h
    obtain ⟨t1, f1⟩ := rest_form (a * z + b)
    obtain ⟨t2, f2⟩ := rest_form (c * z + d)
    rw [h, f2] at f1
    exact ⟨t2 - t1, by rw [Int.natCast_add, Int.natCast_add] at f1; omega⟩
  obtain ⟨t1, f1⟩ := key x h1
  obtain ⟨t2, f2⟩ := key y h2
  have hac : a = c := by
    obtain ⟨s, e⟩ := sub_rest hx hy
    have hn := sub_ne hx hy hxy
    have hl := addM_lt x (pr - y)
    generalize addM x (pr - y) = D at *
    refine mul_back (a := D) (by rw [show D % pr = D from Nat.mod_eq_of_lt hl]; exact hn) ha hc ?_
    have g : ∀ q : Nat, ((D * q : Nat) : Int) = (q * x : Nat) - (q * y : Nat) + 2305843009213693951 * (s * q) := fun q => by
      rw [Int.natCast_mul, e, Int.add_mul, Int.sub_mul, Int.mul_assoc, Int.natCast_mul, Int.natCast_mul, Int.mul_comm (x : Int), Int.mul_comm (y : Int)]
    have ga := g a
    have gc := g c
    obtain ⟨t3, f3⟩ := rest_form (D * c)
    unfold mulM
    refine rest_back _ _ (Nat.mod_lt _ (by decide)) (t1 - t2 + s * a - s * c - t3) ?_
    show ((D * a : Nat) : Int) = ((D * c % 2305843009213693951 : Nat) : Int) + _
    rw [f3, ga, gc]
    generalize s * (a : Int) = sa at *
    generalize s * (c : Int) = sc at *
    generalize ((a * x : Nat) : Int) = ax at *
    generalize ((a * y : Nat) : Int) = ay at *
    generalize ((c * x : Nat) : Int) = cx at *
    generalize ((c * y : Nat) : Int) = cy at *
    clear f3 e ga gc g h1 h2 key
    omega
  subst hac
  refine ⟨rfl, ?_⟩
  unfold pr at hb hd
  clear h1 h2 key f2
  omega

end Go.Proofs.Wm
end
