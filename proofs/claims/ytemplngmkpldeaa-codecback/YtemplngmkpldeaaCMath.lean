/- Numbers of eight bytes, texts, and what a reader tells: plain mathematics. -/
import Derived.Test.YtemplngmkpldeaaMath
namespace Go.Proofs.Vm

/-- Byte i of a number of eight bytes, the highest first. -/
def fixB (n : Nat) (i : Nat) : Int := ((n / 256 ^ (7 - i) % 256 : Nat) : Int)
def vfix (n : Nat) : List Int := (List.range 8).map (fixB n)
def vtext (t : List Int) : List Int := vput t.length ++ t

/-- The number of the first k bytes, the highest first. -/
def ufix (bs : List Int) : Nat → Nat
  | 0 => 0
  | k + 1 => 256 * ufix bs k + (bs.getD k 0).toNat

theorem vfix_len (n : Nat) : (vfix n).length = 8 := by simp [vfix]
theorem vfix_getD (n : Nat) {i : Nat} (h : i < 8) : (vfix n).getD i 0 = fixB n i := by simp [vfix, List.getD_eq_getElem?_getD, h]
theorem fixB_bounds (n i : Nat) : 0 ≤ fixB n i ∧ fixB n i ≤ 255 := by unfold fixB; omega
theorem vfix_bounds (n : Nat) : ∀ x ∈ vfix n, 0 ≤ x ∧ x ≤ 255 := by
  intro x hx
  obtain ⟨i, _, rfl⟩ := List.mem_map.1 hx
  exact fixB_bounds n i
theorem vtext_bounds {t : List Int} (h : ∀ x ∈ t, 0 ≤ x ∧ x ≤ 255) : ∀ x ∈ vtext t, 0 ≤ x ∧ x ≤ 255 := fun x hx => (List.mem_append.1 hx).elim (vput_bounds _ x) (h x)
theorem vtext_len (t : List Int) : (vtext t).length = (vput t.length).length + t.length := by simp [vtext]

theorem getD_bounds {bs : List Int} (hb : ∀ x ∈ bs, 0 ≤ x ∧ x ≤ 255) (k : Nat) : 0 ≤ bs.getD k 0 ∧ bs.getD k 0 ≤ 255 := by
  rw [List.getD_eq_getElem?_getD]
  by_cases h : k < bs.length
  · rw [List.getElem?_eq_getElem h]; exact hb _ (List.getElem_mem h)
  · rw [List.getElem?_eq_none (by omega)]; simp

theorem ufix_lt {bs : List Int} (hb : ∀ x ∈ bs, 0 ≤ x ∧ x ≤ 255) : ∀ k, ufix bs k < 256 ^ k
  | 0 => by simp [ufix]
  | k + 1 => by
    have := ufix_lt hb k
    have h := getD_bounds hb k
    simp only [ufix, Nat.pow_succ]; omega

theorem ufix_fix (n : Nat) (hn : n < 18446744073709551616) (more : List Int) : ∀ k, k ≤ 8 → ufix (vfix n ++ more) k = n / 256 ^ (8 - k)
  | 0, _ => by
    have : (256 : Nat) ^ (8 - 0) = 18446744073709551616 := by decide
    rw [this, Nat.div_eq_of_lt hn]; rfl
  | k + 1, h => by
    rw [ufix, ufix_fix n hn more k (by omega), getD_left (by rw [vfix_len]; omega), vfix_getD n (by omega)]
    unfold fixB
    rw [Int.toNat_natCast, show 8 - k = (7 - k) + 1 by omega, show 8 - (k + 1) = 7 - k by omega, Nat.pow_succ, ← Nat.div_div_eq_div_mul]
    omega

theorem ufix_back (n : Nat) (hn : n < 18446744073709551616) (more : List Int) : ufix (vfix n ++ more) 8 = n := by
  rw [ufix_fix n hn more 8 (by omega)]; simp

/-! ### A reader: the bytes that are left, and what was wrong -/

/-- The next number, of how many bytes it is, and what is wrong. -/
def rnum (bs : List Int) (e : Int) (most : Nat) : Nat × Nat × Int :=
  if e ≠ 0 then (0, 0, e) else
  if (vtake bs).2.2 ≠ 0 then (0, 0, ((vtake bs).2.2 : Int)) else
  if most < (vtake bs).1 then (0, 0, 2) else ((vtake bs).1, (vtake bs).2.1, 0)

def rNum (bs : List Int) (e : Int) (most : Nat) : List Int × Int × Nat :=
  if (rnum bs e most).2.2 ≠ 0 then (bs, (rnum bs e most).2.2, 0) else (bs.drop (rnum bs e most).2.1, 0, (rnum bs e most).1)
def rFixed (bs : List Int) (e : Int) : List Int × Int × Nat :=
  if e ≠ 0 then (bs, e, 0) else if bs.length < 8 then (bs, 3, 0) else (bs.drop 8, 0, ufix bs 8)
def rText (bs : List Int) (e : Int) (most : Int) : List Int × Int × List Int :=
  if (rnum bs e most.toNat).2.2 ≠ 0 then (bs, (rnum bs e most.toNat).2.2, []) else
  if bs.length - (rnum bs e most.toNat).2.1 < (rnum bs e most.toNat).1 then (bs, 3, []) else
  (bs.drop ((rnum bs e most.toNat).2.1 + (rnum bs e most.toNat).1), 0, (bs.drop (rnum bs e most.toNat).2.1).take (rnum bs e most.toNat).1)
def rEnd (bs : List Int) (e : Int) : Int := if e ≠ 0 then e else if 0 < bs.length then 2 else 0
def rFail (e x : Int) : Int := if e = 0 then x else e

theorem rnum_bad {bs : List Int} {e : Int} {most : Nat} (h : e ≠ 0) : rnum bs e most = (0, 0, e) := by unfold rnum; rw [if_pos h]
theorem rnum_of {bs : List Int} {most n k c : Nat} (ht : vtake bs = (n, k, c)) : rnum bs 0 most = if c ≠ 0 then (0, 0, (c : Int)) else if most < n then (0, 0, 2) else (n, k, 0) := by
  unfold rnum; rw [if_neg (by simp), ht]

theorem rnum_cases (bs : List Int) (hb : ∀ x ∈ bs, 0 ≤ x ∧ x ≤ 255) (most : Nat) : rnum bs 0 most = (0, 0, 2) ∨ rnum bs 0 most = (0, 0, 3) ∨ ∃ n k, rnum bs 0 most = (n, k, 0) ∧ n < 18446744073709551616 ∧ k ≤ bs.length ∧ n ≤ most ∧ vtake bs = (n, k, 0) ∧ vput n = bs.take k := by
  rcases vtake_cases bs hb with h | h | ⟨a, k, h, ha, hk, hp⟩
  · exact .inl (by rw [rnum_of h]; rfl)
  · exact .inr (.inl (by rw [rnum_of h]; rfl))
  · rw [rnum_of h, if_neg (by simp)]
    by_cases hm : most < a
    · rw [if_pos hm]; exact .inl rfl
    · rw [if_neg hm]; exact .inr (.inr ⟨a, k, rfl, by omega, hk, by omega, h, hp⟩)

theorem rNum_err {bs : List Int} {most n k c : Nat} (ht : vtake bs = (n, k, c)) (hc : c ≠ 0) : rNum bs 0 most = (bs, (c : Int), 0) := by
  have hc' : (c : Int) ≠ 0 := by omega
  unfold rNum; rw [rnum_of ht]; simp [hc]
theorem rNum_more {bs : List Int} {most n k : Nat} (ht : vtake bs = (n, k, 0)) (hm : most < n) : rNum bs 0 most = (bs, 2, 0) := by
  unfold rNum; rw [rnum_of ht]; simp [hm]
theorem rNum_ok {bs : List Int} {most n k : Nat} (ht : vtake bs = (n, k, 0)) (hm : ¬ most < n) : rNum bs 0 most = (bs.drop k, 0, n) := by
  unfold rNum; rw [rnum_of ht]; simp [hm]

theorem rNum_put (n : Nat) (hn : n < 18446744073709551616) (more : List Int) (most : Nat) (hm : n ≤ most) : rNum (vput n ++ more) 0 most = (more, 0, n) := by
  have h := rnum_of (most := most) (vtake_put n (by omega) more)
  rw [if_neg (by simp), if_neg (by omega)] at h
  unfold rNum
  rw [h]
  simp

theorem rNum_form (n : Nat) (hn : n < 18446744073709551616) (more : List Int) (most : Nat) (hm : most < n) : rNum (vput n ++ more) 0 most = (vput n ++ more, 2, 0) := by
  have h := rnum_of (most := most) (vtake_put n (by omega) more)
  rw [if_neg (by simp), if_pos (by omega)] at h
  unfold rNum
  rw [h]
  simp

theorem rNum_bad (bs : List Int) (e : Int) (he : e ≠ 0) (most : Nat) : rNum bs e most = (bs, e, 0) := by
  unfold rNum; rw [rnum_bad he]; simp [he]

theorem rFixed_fix (n : Nat) (hn : n < 18446744073709551616) (more : List Int) : rFixed (vfix n ++ more) 0 = (more, 0, n) := by
  have hl : ¬ (vfix n ++ more).length < 8 := by simp [vfix_len]
  unfold rFixed
  rw [if_neg (by simp), if_neg hl, ufix_back n hn more]
  rw [List.drop_append_of_le_length (by rw [vfix_len]; omega), List.drop_of_length_le (by rw [vfix_len]; omega)]
  rfl

theorem rText_text (t more : List Int) (ht : t.length < 18446744073709551616) (most : Int) (hm : (t.length : Int) ≤ most) : rText (vtext t ++ more) 0 most = (more, 0, t) := by
  have h := rnum_of (most := most.toNat) (vtake_put t.length (by omega) (t ++ more))
  rw [if_neg (by simp), if_neg (by omega), ← List.append_assoc] at h
  unfold rText vtext
  rw [h]
  have h1 : (vput t.length ++ t ++ more).length - (vput t.length).length = t.length + more.length := by simp
  rw [if_neg (by simp)]
  dsimp only
  rw [h1, if_neg (by omega), List.append_assoc, List.drop_append, ← List.drop_drop]
  simp

theorem rText_form (t more : List Int) (ht : t.length < 18446744073709551616) (most : Int) (hm : most.toNat < t.length) : rText (vtext t ++ more) 0 most = (vtext t ++ more, 2, []) := by
  have h := rnum_of (most := most.toNat) (vtake_put t.length (by omega) (t ++ more))
  rw [if_neg (by simp), if_pos (by omega), ← List.append_assoc] at h
  unfold rText vtext
  rw [h]
  simp

theorem rNum_drop (bs : List Int) (e : Int) (most : Nat) : ∃ k, (rNum bs e most).1 = bs.drop k := by
  unfold rNum
  split
  · exact ⟨0, rfl⟩
  · exact ⟨_, rfl⟩
theorem rFixed_drop (bs : List Int) (e : Int) : ∃ k, (rFixed bs e).1 = bs.drop k := by
  unfold rFixed
  split
  · exact ⟨0, rfl⟩
  · split
    · exact ⟨0, rfl⟩
    · exact ⟨8, rfl⟩
theorem rText_drop (bs : List Int) (e : Int) (most : Int) : ∃ k, (rText bs e most).1 = bs.drop k := by
  unfold rText
  split
  · exact ⟨0, rfl⟩
  · split
    · exact ⟨0, rfl⟩
    · exact ⟨_, rfl⟩
theorem rText_part (bs : List Int) (e : Int) (most : Int) : ∀ x ∈ (rText bs e most).2.2, x ∈ bs := by
  intro x hx
  unfold rText at hx
  split at hx
  · simp at hx
  · split at hx
    · simp at hx
    · exact List.mem_of_mem_drop (List.mem_of_mem_take hx)

theorem rnum_bounds (bs : List Int) (hb : ∀ x ∈ bs, 0 ≤ x ∧ x ≤ 255) (e : Int) (most : Nat) : (rnum bs e most).1 < 18446744073709551616 ∧ (rnum bs e most).2.1 ≤ bs.length := by
  by_cases he : e = 0
  · subst he
    rcases rnum_cases bs hb most with h | h | ⟨n, k, h, h1, h2, _⟩ <;> rw [h] <;> simp <;> omega
  · rw [rnum_bad he]; simp

end Go.Proofs.Vm
