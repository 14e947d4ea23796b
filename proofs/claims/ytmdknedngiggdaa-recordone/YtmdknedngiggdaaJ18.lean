/- skylightlaw10.below: the greater bound, by digits of 2^32. · The contracts of skylightref08.Parts and skylightref08.Of. · The contract of skylightref08.Exact: how many units really came within. · skylightlaw10.real: what really came to a tree. -/
import Derived.Test.YtmdknedngiggdaaJ17
import Derived.Test.YtmdknedngiggdaaJ12
section
/- skylightlaw10.below: the greater bound, by digits of 2^32. -/
namespace Go.Proofs.Dg
theorem list8_range (d : Nat → Nat) : list8 d = (List.range 8).map d := rfl
theorem cmp8 {d e : Nat → Nat} (hd : ∀ i, i < 8 → d i < 4294967296) (he : ∀ i, i < 8 → e i < 4294967296) {m : Nat} (hm : m < 8) (hup : ∀ i, m < i → i < 8 → d i = e i) (hne : d m ≠ e m) (hle : val (list8 d) ≤ val (list8 e)) : d m < e m := by
  have h1 : (list8 d)[m]'(by simpa [list8] using hm) = d m := by simp [list8_range]
  have h2 : (list8 e)[m]'(by simpa [list8] using hm) = e m := by simp [list8_range]
  have := (val_cmp (a := list8 d) (b := list8 e) rfl (low8 hd) (low8 he) (i := m) (by simpa [list8] using hm) (by
    refine List.ext_getElem (by simp [list8]) fun i h h' => ?_
    simp only [list8_range, List.getElem_drop, List.getElem_map, List.getElem_range]
    refine hup _ (by omega) ?_
    simp [list8] at h
    omega) (by rw [h1, h2]; exact hne)).1 hle
  rwa [h1, h2] at this
/-- One of the two sides, after so many rounds. -/
def side (x y n : Nat) : Nat → Nat → Nat
  | 0 => prodD x (numD n)
  | i + 1 => prodD y (side x y n i)
theorem num_lt {n : Nat} (hn : n < 18446744073709551616) (i : Nat) : numD n i < 4294967296 := by
  unfold numD
  split
  · omega
  · split <;> omega
theorem side_lt (x y n : Nat) : ∀ g i, side x y n g i < 4294967296
  | 0, _ => prod_lt _ _ _
  | _ + 1, _ => prod_lt _ _ _
theorem side_val {x y n : Nat} (hx : x ≤ 2048) (hy : y ≤ 2048) (hn : n < 18446744073709551616) : ∀ g, g ≤ 4 → val (list8 (side x y n g)) = n * x * y ^ g ∧ n * x * y ^ g ≤ 18446744073709551616 * 2048 * 2048 ^ g
  | 0, _ => by
    have hb : n * x ≤ 18446744073709551616 * 2048 := Nat.mul_le_mul (by omega) hx
    have h : val (list8 (numD n)) * x < 4294967296 ^ 8 := by rw [val_num]; omega
    refine ⟨?_, ?_⟩
    · show val (list8 (prodD x (numD n))) = _
      rw [val_prod h, val_num, Nat.pow_zero, Nat.mul_one]
    · rw [Nat.pow_zero, Nat.mul_one, Nat.pow_zero, Nat.mul_one]
      exact hb
  | g + 1, hg => by
    obtain ⟨h1, h2⟩ := side_val hx hy hn g (by omega)
    have hb : n * x * y ^ g * y ≤ 18446744073709551616 * 2048 * 2048 ^ g * 2048 := Nat.mul_le_mul h2 hy
    have hc : (18446744073709551616 * 2048 * 2048 ^ g * 2048 : Nat) < 4294967296 ^ 8 := by
      rcases (by omega : g = 0 ∨ g = 1 ∨ g = 2 ∨ g = 3) with rfl | rfl | rfl | rfl <;> decide
    refine ⟨?_, ?_⟩
    · show val (list8 (prodD y (side x y n g))) = _
      rw [val_prod (by rw [h1]; omega), h1, Nat.pow_succ, Nat.mul_assoc]
    · rw [Nat.pow_succ, ← Nat.mul_assoc, Nat.pow_succ, ← Nat.mul_assoc]
      exact hb
end Go.Proofs.Dg
namespace Go.Proofs.Ytmdknedngiggdaa
open Go.RowKit Go.Shelf Go.Proofs.Rw Go.Proofs.Lh Go.Proofs.Rf Go.Proofs.Dg

theorem frozen8 {W : World} {b : Nat} {d : Nat → Nat} {T : TypeId} (h : W.heap[b]? = some (.cells (arr8 d) T)) : ∀ i, W.frozen? ⟨b, i, none⟩ = false := fun i => by simp [World.frozen?, h]

end Go.Proofs.Ytmdknedngiggdaa
end
section
/- The contracts of skylightref08.Parts and skylightref08.Of. -/
namespace Go.Proofs.Ytmdknedngiggdaa
open Go.RowKit Go.Shelf Go.Proofs.Rw Go.Proofs.Lh

end Go.Proofs.Ytmdknedngiggdaa
end
section
/- The contract of skylightref08.Exact: how many units really came within. -/
namespace Go.Proofs.Ytmdknedngiggdaa
open Go.RowKit Go.Shelf Go.Proofs.Rw Go.Proofs.Lh Go.Proofs.Rf

end Go.Proofs.Ytmdknedngiggdaa
end
section
/- skylightlaw10.real: what really came to a tree. -/
namespace Go.Proofs.Lh
open Go.Proofs.Lm (Sp)
def sumTo (d : Nat) (f : Nat → Nat) : Nat → Nat
  | 0 => 0
  | i + 1 => sumTo d f i + timesN d i * f i
theorem sumTo_four (d : Nat) (f : Nat → Nat) : sumTo d f 4 = sumT d f := by
  show 0 + _ + _ + _ + _ = _
  rw [Nat.zero_add]
  rfl
theorem times_le {d : Nat} (h : d ≤ 4) (i : Nat) : timesN d i ≤ 3 := by
  unfold timesN
  split
  · split <;> omega
  · split
    · split <;> omega
    · split <;> omega
theorem sumTo_le {d : Nat} (h : d ≤ 4) {f : Nat → Nat} {B : Nat} (hf : ∀ i, i < 4 → f i ≤ B) : ∀ j, j ≤ 4 → sumTo d f j ≤ j * (3 * B)
  | 0, _ => by simp [sumTo]
  | j + 1, hj => by
    have h1 := sumTo_le h hf j (by omega)
    have h2 : timesN d j * f j ≤ 3 * B := Nat.mul_le_mul (times_le h j) (hf j (by omega))
    rw [sumTo, Nat.add_mul]
    omega
end Go.Proofs.Lh
namespace Go.Proofs.Ytmdknedngiggdaa
open Go.RowKit Go.Shelf Go.Proofs.Rw Go.Proofs.Lh Go.Proofs.Rf

def exT (t : Tr) (f g i : Nat) : Nat := exactN (kOf t.K) (withB f g) (t.ds i) (doneN (t.ds i))
theorem light_done {t : Tr} (hl : IsLight t) {i : Nat} (hi : i < 4) : doneN (t.ds i) = (t.ds i).length := by
  have := (hl i hi).1
  unfold doneN
  omega
theorem exT_le {t : Tr} (hl : IsLight t) (f g : Nat) (i : Nat) (hi : i < 4) : exT t f g i ≤ 21990232555520 := by
  have h1 := (hl i hi).1
  have hk := kOf_le t.K
  have h2 := exact_le (kOf t.K) (withB f g) (t.ds i) (doneN (t.ds i)) (by unfold doneN; omega)
  have h3 := play_tot (k := kOf t.K) hk.1 (by omega) (t.ds i) 1099511627776 (hl i hi).2 (doneN (t.ds i)) (by unfold doneN; omega)
  have h4 : doneN (t.ds i) * 1099511627776 ≤ 20 * 1099511627776 := Nat.mul_le_mul_right _ (by unfold doneN; omega)
  unfold exT
  omega
theorem wrapU {x : Nat} (h : (x : Int) < 18446744073709551616) : IntKind.u64.wrap (x : Int) = (x : Int) := by
  simp [IntKind.wrap, IntKind.bits, IntKind.signed]
  omega
theorem times_at {W : World} {b d : Nat} {T : TypeId} (h : W.heap[b]? = some (.cells #[.int .u64 (timesN d 0 : Nat), .int .u64 (timesN d 1 : Nat), .int .u64 (timesN d 2 : Nat), .int .u64 (timesN d 3 : Nat)] T)) (i : Nat) (hi : i < 4) : W.cell? ⟨b, i, none⟩ = some (.int .u64 (timesN d i : Nat)) := by
  match i, hi with
  | 0, _ => simp [World.cell?, h]
  | 1, _ => simp [World.cell?, h]
  | 2, _ => simp [World.cell?, h]
  | 3, _ => simp [World.cell?, h]

end Go.Proofs.Ytmdknedngiggdaa
end
