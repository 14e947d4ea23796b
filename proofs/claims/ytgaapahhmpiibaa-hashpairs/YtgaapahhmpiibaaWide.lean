/- The contracts of wide. -/
import Derived.WalkKit
import Derived.OwnWalk
import Derived.LoopTactic
import Derived.Lib.Hide
import Derived.IntWalk
import Derived.Deep.CutBlock
import Derived.Deep.QuietTactic
import Derived.Laws.MathBits
import Derived.Test.YtgaapahhmpiibaaProg
import Derived.Test.YtgaapahhmpiibaaWMath
namespace Go.Proofs.Ytgaapahhmpiibaa
open Go.RowKit Go.Proofs.Wm

/-- One number. -/
def n64 (n : Nat) : Ending := .returned (.int .u64 (n : Int))

theorem times_val {x y : Int} {m n k : Nat} (hx : x = m) (hy : y = n) (hm : m < 18446744073709551616) (hn : n < 18446744073709551616) (hk : k = m % 4294967296 * (n % 4294967296)) :
    Ending.returned (.int .u64 (IntKind.u64.wrap (bits BinOp.and IntKind.u64 x 4294967295 * bits BinOp.and IntKind.u64 y 4294967295))) = n64 k := by
  subst hx hy hk
  rw [and_low32 _ (by omega) (by omega), and_low32 _ (by omega) (by omega), IntKind.wrap_u64]
  have h := prod_bound ((m : Int) % 4294967296) ((n : Int) % 4294967296) (by omega) (by omega) (by omega) (by omega)
  rw [Int.emod_eq_of_lt h.1 (by omega)]
  unfold n64
  rw [Int.natCast_mul, Int.natCast_emod, Int.natCast_emod]
  rfl

theorem times_any (s t : Nat) (hs : s = 0 ∨ s = 32) (ht : t = 0 ∨ t = 32) (a b : Nat) (ha : a < 18446744073709551616) (hb : b < 18446744073709551616) (A B : Addr) (w : World)
    (cA : w.cell? A = some (.int .u64 a)) (cB : w.cell? B = some (.int .u64 b)) :
    Calls Try.prog 30 #[.int .u64 s, .int .u64 t, .pointer (some A), .pointer (some B)] w fun e w' => e = n64 ((a / 2 ^ s % 4294967296) * (b / 2 ^ t % 4294967296)) ∧ w = w' := by
  have da : ((a : Int) / 4294967296 = ((a / 4294967296 : Nat) : Int)) := rfl
  have db : ((b : Int) / 4294967296 = ((b / 4294967296 : Nat) : Int)) := rfl
  have DA := Lib.hid da
  have DB := Lib.hid db
  clear da db
  rcases hs with rfl | rfl
  all_goals rcases ht with rfl | rfl
  all_goals
    go_enter Try.func30, Try.ntmps30
    go_wp2
    go_ret
    refine ⟨?_, rfl⟩
  · exact times_val rfl rfl ha hb (by simp)
  · exact times_val rfl DB.out ha (by omega) (by simp)
  · exact times_val DA.out rfl (by omega) hb (by simp)
  · exact times_val DA.out DB.out (by omega) (by omega) (by simp)

theorem sum_take (xs : List Nat) (k : Nat) (hk : k < xs.length) : (xs.take (k + 1)).sum = (xs.take k).sum + xs.getD k 0 := by
  rw [List.take_add_one, List.sum_append, List.getD_eq_getElem?_getD]
  simp [hk]
theorem sum_take_le (xs : List Nat) (k : Nat) : (xs.take k).sum ≤ xs.sum := by
  have h : xs.sum = (xs.take k).sum + (xs.drop k).sum := by rw [← List.sum_append, List.take_append_drop]
  omega

theorem sum_any (b off : Nat) (xs : List Nat) (cap : Nat) (w : World) (hlen : xs.length ≤ maxLen) (hsum : xs.sum < 18446744073709551616)
    (hc : ∀ j, j < xs.length → w.cell? ⟨b, off + j, none⟩ = some (.int .u64 (xs.getD j 0 : Nat))) :
    Calls Try.prog 24 #[.slice (some ⟨b, off, none⟩) xs.length cap] w fun e w' => e = n64 xs.sum ∧ w = w' := by
  unfold maxLen at hlen
  have HC := Lib.hid hc
  have HS := Lib.hid hsum
  clear hc hsum
  go_enter Try.func24, Try.ntmps24
  go_wp2
  go_loop [3, 8] (fun n i => ∃ k : Nat, k ≤ xs.length ∧ i = .int .i64 k ∧ n = .int .u64 ((xs.take k).sum : Nat)) (fun _ i => xs.length - (intOf i).toNat)
  case atStart => exact ⟨0, by omega, rfl, rfl⟩
  case round =>
    obtain ⟨k, hk, rfl, rfl⟩ := hrel
    by_cases hlt : k < xs.length
    · have hcell : w.cell? ⟨b, off + k, none⟩ = some (.int .u64 (xs.getD k 0 : Nat)) := HC.out k hlt
      have h1 := sum_take xs k hlt
      have h2 := sum_take_le xs (k + 1)
      obtain ⟨d, hd⟩ : ∃ d, xs.getD k 0 = d := ⟨_, rfl⟩
      obtain ⟨g, hg⟩ : ∃ g, (xs.take k).sum = g := ⟨_, rfl⟩
      rw [hd] at hcell h1
      rw [hg] at h1
      rw [h1] at h2
      have h3 : g + d < 18446744073709551616 := Nat.lt_of_le_of_lt h2 HS.out
      have H1 := Lib.hid h1
      rw [hg]
      clear h1 h2 hd hg
      go_wp2_with fail
      go_round
      case rel =>
        refine ⟨k + 1, by omega, by go_num, ?_⟩
        rw [H1.out]
        go_num
      case measure => simp [intOf]; omega
    · have hke : k = xs.length := by omega
      have HK := Lib.hid hke
      clear hke
      go_wp2
      go_ret
      refine ⟨?_, rfl⟩
      have e := HK.out
      subst e
      rw [List.take_length]
      rfl

/-- A new row of numbers. -/
theorem row_cells (w : World) (t : TypeId) (vs : Array Value) (xs : List Nat) (hv : vs = (xs.map fun x : Nat => Value.int .u64 (x : Int)).toArray) :
    ∀ j, j < xs.length → (w.alloc (.cells vs t)).cell? ⟨w.heap.size, 0 + j, none⟩ = some (.int .u64 (xs.getD j 0 : Nat)) := by
  intro j hj
  subst hv
  rw [World.cell?_alloc_at _ _ _ _ rfl]
  simp [hj]

theorem below_row (w : World) (o : Obj) : Below w.heap.size w (w.alloc o) := (Below.refl _ w).alloc (Nat.le_refl _) _

set_option maxRecDepth 100000 in
theorem addMod_any (a b : Nat) (ha : a < 18446744073709551616) (hb : b < 18446744073709551616) (w : World) :
    Calls Try.prog 17 #[.int .u64 a, .int .u64 b] w fun e w' => e = n64 (addM a b) ∧ Below w.heap.size w w' := by
  have hs := fun W (hW : W = w.alloc (.cells #[.int .u64 ((a % 2305843009213693951 : Nat) : Int), .int .u64 ((b % 2305843009213693951 : Nat) : Int)] 22)) =>
    sum_any w.heap.size 0 [a % 2305843009213693951, b % 2305843009213693951] 2 W (by simp [maxLen]) (by simp; omega) (by rw [hW]; exact row_cells w _ _ _ rfl)
  have HS := Lib.hid hs
  clear hs
  go_enter Try.func17, Try.ntmps17
  go_wp2_with (go_at_call 24; refine (HS.out _ rfl).mono ?_; rintro e wa ⟨rfl, rfl⟩; dsimp only [n64])
  go_ret
  refine ⟨congrArg (fun z => Ending.returned (.int .u64 z)) ?_, below_row _ _⟩
  unfold addM pr
  omega

set_option maxRecDepth 100000 in
theorem mod_any (a b : Nat) (ha : a < 18446744073709551616) (hb : b < 18446744073709551616) (w : World) :
    Calls Try.prog 25 #[.int .u64 a, .int .u64 b] w fun e w' => e = n64 (modW a b) ∧ Below w.heap.size w w' := by
  have hs := addMod_any (a % 2305843009213693951 * 8) b (by omega) hb w
  have HS := Lib.hid hs
  clear hs
  go_enter Try.func25, Try.ntmps25
  go_wp2_with (go_at_call 17; refine HS.out.mono ?_; rintro e wa ⟨rfl, hbl⟩; dsimp only [n64])
  go_ret
  refine ⟨congrArg (fun z : Nat => Ending.returned (.int .u64 (z : Int))) ?_, hbl⟩
  unfold addM modW pr
  omega

theorem split32 (p : Nat) (h : p < 18446744073709551616) : ∃ u l : Nat, p = u * 4294967296 + l ∧ l < 4294967296 ∧ u < 4294967296 ∧ bits BinOp.and .u64 (p : Int) 4294967295 = (l : Int) ∧ (p : Int) / 4294967296 = (u : Int) :=
  ⟨p / 4294967296, p % 4294967296, by omega, by omega, by omega, and_low32 _ (by omega) (by omega), rfl⟩

theorem or_halves (m l um lm : Nat) (hm : m = um * 4294967296 + lm) (hl : l < 4294967296) (hlm : lm < 4294967296) :
    bits BinOp.or .u64 (IntKind.u64.wrap ((m : Int) * 4294967296)) (l : Int) = ((lm * 4294967296 + l : Nat) : Int) := by
  have e : IntKind.u64.wrap ((m : Int) * 4294967296) = ((lm * 4294967296 : Nat) : Int) := by rw [IntKind.wrap_u64]; omega
  rw [e, bits_or_u64_nat _ _ (by omega) (by omega)]
  have := Nat.shiftLeft_add_eq_or_of_lt (i := 32) (b := l) hl lm
  rw [Nat.shiftLeft_eq] at this
  exact congrArg _ this.symm

theorem sum3 (W : World) (x y z : Nat) (h : x + y + z < 18446744073709551616) :
    Calls Try.prog 24 #[.slice (some ⟨W.heap.size, 0, none⟩) 3 3] (W.alloc (.cells #[.int .u64 x, .int .u64 y, .int .u64 z] 22)) fun e w' => e = n64 (x + y + z) ∧ W.alloc (.cells #[.int .u64 x, .int .u64 y, .int .u64 z] 22) = w' := by
  have hh := sum_any W.heap.size 0 [x, y, z] 3 _ (by simp [maxLen]) (by simp; omega) (row_cells W 22 _ _ rfl)
  rw [show [x, y, z].sum = x + y + z by simp; omega] at hh
  exact hh
theorem sum4 (W : World) (B : Nat) (hB : B = W.heap.size) (x y z t : Nat) (h : x + y + z + t < 18446744073709551616) :
    Calls Try.prog 24 #[.slice (some ⟨B, 0, none⟩) 4 4] (W.alloc (.cells #[.int .u64 x, .int .u64 y, .int .u64 z, .int .u64 t] 22)) fun e w' => e = n64 (x + y + z + t) ∧ W.alloc (.cells #[.int .u64 x, .int .u64 y, .int .u64 z, .int .u64 t] 22) = w' := by
  subst hB
  have hh := sum_any W.heap.size 0 [x, y, z, t] 4 _ (by simp [maxLen]) (by simp; omega) (row_cells W 22 _ _ rfl)
  rw [show [x, y, z, t].sum = x + y + z + t by simp; omega] at hh
  exact hh

set_option maxRecDepth 100000 in
set_option maxHeartbeats 1000000 in
theorem mul_any (a b : Nat) (ha : a < 18446744073709551616) (hb : b < 18446744073709551616) (w : World) :
    Calls Try.prog 26 #[.int .u64 a, .int .u64 b] w fun e w' => e = .returned (.tuple #[.int .u64 (mulHi a b : Nat), .int .u64 (mulLo a b : Nat)]) ∧ Below w.heap.size w w' := by
  obtain ⟨a1, a0, ea, la0, la1, -, -⟩ := split32 a ha
  obtain ⟨b1, b0, eb, lb0, lb1, -, -⟩ := split32 b hb
  have hd : a / 2 ^ 0 % 4294967296 = a0 ∧ a / 2 ^ 32 % 4294967296 = a1 := by simp; omega
  have hd' : b / 2 ^ 0 % 4294967296 = b0 ∧ b / 2 ^ 32 % 4294967296 = b1 := by simp; omega
  obtain ⟨W1, hW1⟩ : ∃ W, W = (w.alloc (Obj.cells #[Value.int IntKind.u64 ↑a] 22)).alloc (Obj.cells #[Value.int IntKind.u64 ↑b] 22) := ⟨_, rfl⟩
  have cA : W1.cell? ⟨w.heap.size, 0, none⟩ = some (.int .u64 a) := by rw [hW1]; go_simp
  have cB : W1.cell? ⟨w.heap.size + 1, 0, none⟩ = some (.int .u64 b) := by rw [hW1]; go_simp
  have t00 : Calls Try.prog 30 #[.int .u64 0, .int .u64 0, .pointer (some ⟨w.heap.size, 0, none⟩), .pointer (some ⟨w.heap.size + 1, 0, none⟩)] W1 fun e w' => e = n64 ((a / 2 ^ 0 % 4294967296) * (b / 2 ^ 0 % 4294967296)) ∧ W1 = w' := times_any 0 0 (by omega) (by omega) a b ha hb _ _ W1 cA cB
  have t11 : Calls Try.prog 30 #[.int .u64 32, .int .u64 32, .pointer (some ⟨w.heap.size, 0, none⟩), .pointer (some ⟨w.heap.size + 1, 0, none⟩)] W1 fun e w' => e = n64 ((a / 2 ^ 32 % 4294967296) * (b / 2 ^ 32 % 4294967296)) ∧ W1 = w' := times_any 32 32 (by omega) (by omega) a b ha hb _ _ W1 cA cB
  have t10 : Calls Try.prog 30 #[.int .u64 32, .int .u64 0, .pointer (some ⟨w.heap.size, 0, none⟩), .pointer (some ⟨w.heap.size + 1, 0, none⟩)] W1 fun e w' => e = n64 ((a / 2 ^ 32 % 4294967296) * (b / 2 ^ 0 % 4294967296)) ∧ W1 = w' := times_any 32 0 (by omega) (by omega) a b ha hb _ _ W1 cA cB
  have t01 : Calls Try.prog 30 #[.int .u64 0, .int .u64 32, .pointer (some ⟨w.heap.size, 0, none⟩), .pointer (some ⟨w.heap.size + 1, 0, none⟩)] W1 fun e w' => e = n64 ((a / 2 ^ 0 % 4294967296) * (b / 2 ^ 32 % 4294967296)) ∧ W1 = w' := times_any 0 32 (by omega) (by omega) a b ha hb _ _ W1 cA cB
  rw [hd.1, hd'.1] at t00
  rw [hd.2, hd'.2] at t11
  rw [hd.2, hd'.1] at t10
  rw [hd.1, hd'.2] at t01
  obtain ⟨p00, e00⟩ : ∃ p, a0 * b0 = p := ⟨_, rfl⟩
  obtain ⟨p11, e11⟩ : ∃ p, a1 * b1 = p := ⟨_, rfl⟩
  obtain ⟨p10, e10⟩ : ∃ p, a1 * b0 = p := ⟨_, rfl⟩
  obtain ⟨p01, e01⟩ : ∃ p, a0 * b1 = p := ⟨_, rfl⟩
  have hp := mul_halves la1 la0 lb1 lb0 e00 e10 e01 e11
  rw [← ea, ← eb] at hp
  rw [e00] at t00
  rw [e11] at t11
  rw [e10] at t10
  rw [e01] at t01
  obtain ⟨hab, g00, g10, g01, g11⟩ := hp
  obtain ⟨u00, l00, s00, b00, c00, d00, q00⟩ := split32 p00 (by omega)
  obtain ⟨u10, l10, s10, b10, c10, d10, q10⟩ := split32 p10 (by omega)
  obtain ⟨u01, l01, s01, b01, c01, d01, q01⟩ := split32 p01 (by omega)
  obtain ⟨m, hm⟩ : ∃ m, u00 + l10 + l01 = m := ⟨_, rfl⟩
  obtain ⟨um, lm, sm, bm, cm, -, qm⟩ := split32 m (by omega)
  have hlt := Nat.mul_lt_mul'' ha hb
  have hhi : mulHi a b = p11 + u10 + u01 + um := by unfold mulHi; omega
  have hlo : mulLo a b = lm * 4294967296 + l00 := by unfold mulLo; omega
  have hsm : p11 + u10 + u01 + um < 18446744073709551616 := by rw [← hhi]; exact mul_lt64 ha hb
  have hor := or_halves m l00 um lm sm b00 bm
  have hs3 := fun W => sum3 W u00 l10 l01 (by omega)
  have hs4 := fun W B hB => sum4 W B hB p11 u10 u01 um hsm
  rw [hm] at hs3
  rw [hhi, hlo]
  obtain ⟨hi, ehi⟩ : ∃ p, p11 + u10 + u01 + um = p := ⟨_, rfl⟩
  obtain ⟨lo, elo⟩ : ∃ p, lm * 4294967296 + l00 = p := ⟨_, rfl⟩
  rw [ehi] at hs4
  rw [elo] at hor
  rw [ehi, elo]
  have HW := Lib.hid hW1
  have T00 := Lib.hid t00
  have T11 := Lib.hid t11
  have T10 := Lib.hid t10
  have T01 := Lib.hid t01
  have S3 := Lib.hid hs3
  have S4 := Lib.hid hs4
  clear t00 t11 t10 t01 hs3 hs4 hd hd' cA cB ea eb e00 e11 e10 e01 hab s00 s10 s01 sm hlt hhi hlo hsm ehi elo hm hW1
  go_enter Try.func26, Try.ntmps26
  go_upto_region 2 with (fail)
  rw [← HW.out]
  go_upto_region 3 with (first
    | (go_at_call 30; (with_reducible refine T00.out.mono ?_); rintro e wa ⟨rfl, rfl⟩; dsimp only [n64])
    | (go_at_call 30; (with_reducible refine T11.out.mono ?_); rintro e wa ⟨rfl, rfl⟩; dsimp only [n64])
    | (go_at_call 30; (with_reducible refine T10.out.mono ?_); rintro e wa ⟨rfl, rfl⟩; dsimp only [n64])
    | (go_at_call 30; (with_reducible refine T01.out.mono ?_); rintro e wa ⟨rfl, rfl⟩; dsimp only [n64]))
  go_upto_region 4 with (first
    | (go_at_call 30; (with_reducible refine T00.out.mono ?_); rintro e wa ⟨rfl, rfl⟩; dsimp only [n64])
    | (go_at_call 30; (with_reducible refine T11.out.mono ?_); rintro e wa ⟨rfl, rfl⟩; dsimp only [n64])
    | (go_at_call 30; (with_reducible refine T10.out.mono ?_); rintro e wa ⟨rfl, rfl⟩; dsimp only [n64])
    | (go_at_call 30; (with_reducible refine T01.out.mono ?_); rintro e wa ⟨rfl, rfl⟩; dsimp only [n64]))
  go_upto_region 5 with (go_at_call 24; refine (S3.out _).mono ?_; rintro e wa ⟨rfl, rfl⟩; dsimp only [n64])
  go_wp2_with (go_at_call 24; refine (S4.out _ _ (by simp)).mono ?_; rintro e wa ⟨rfl, rfl⟩; dsimp only [n64])
  go_ret2
  refine ⟨rfl, ?_⟩
  rw [HW.out]
  exact ((((Below.refl _ w).alloc (Nat.le_refl _) _).alloc (by simp) _).alloc (by simp; omega) _).alloc (by simp; omega) _

set_option maxRecDepth 100000 in
theorem mulMod_any (a b : Nat) (ha : a < 18446744073709551616) (hb : b < 18446744073709551616) (w : World) :
    Calls Try.prog 18 #[.int .u64 a, .int .u64 b] w fun e w' => e = n64 (mulM a b) ∧ Below w.heap.size w w' := by
  have h1 := mul_any a b ha hb w
  have h2 := fun W => mod_any (mulHi a b) (mulLo a b) (mul_lt64 ha hb) (mulLo_lt a b) W
  rw [modW_mul] at h2
  have H1 := Lib.hid h1
  have H2 := Lib.hid h2
  clear h1 h2
  go_enter Try.func18, Try.ntmps18
  go_wp2_with (first
    | (go_at_call 26; refine H1.out.mono ?_; rintro e wa ⟨rfl, hb1⟩)
    | (go_at_call 25; refine (H2.out _).mono ?_; rintro e wb ⟨rfl, hb2⟩; dsimp only [n64]))
  go_ret
  exact ⟨rfl, hb1.trans (hb2.mono hb1.size)⟩

end Go.Proofs.Ytgaapahhmpiibaa
