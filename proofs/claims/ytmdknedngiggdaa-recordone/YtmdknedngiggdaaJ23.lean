/- Plain mathematics of records, round by round: what is read and written when one more comes; ticks that count no further. · The contracts of varint.digits, its closure, and varint.Put. · The contracts of varint.mayEnd and varint.Take. · Bytes in memory: what varint.Put has made, as a string; varint.Take of bytes that lie somewhere. -/
import Derived.Test.YtmdknedngiggdaaJ22
import Derived.RangeFuncNested
import Derived.RangeFuncBound
import Derived.RangeFuncCalls
import Derived.RangeFuncLeaves
import Derived.RangeFuncBox
import Derived.Shelf.Abstract
import Derived.Shelf.RegionOpen
import Derived.WalkKit
import Derived.OwnWalkIn
import Derived.TacticsInMore
import Derived.LoopNIn
import Derived.LoopIn
import Derived.Lib.Hide
import Derived.Maps.AppendAt
import Derived.Test.YtmdknedngiggdaaProg
import Derived.OwnWalk
import Derived.LoopTactic
import Derived.IntWalk
import Derived.Laws.IdiomStrings
import Derived.Laws.OwnMore
import Derived.Below
import Derived.OpenShut
section
/- Plain mathematics of records, round by round: what is read and written when one more comes; ticks that count no further. -/
namespace Go.Proofs.Rc
open Go.Proofs.Vm Go.Proofs.Lh
open Go.Proofs.Lm (Sp)

/-! ### Readings, round by round -/

theorem vec_snoc {α : Type} (f : Rd α) : ∀ (n : Nat) (bs : List Int) (e : Int), vecR f (n + 1) bs e = ((f (vecR f n bs e).1 (vecR f n bs e).2.1).1, (f (vecR f n bs e).1 (vecR f n bs e).2.1).2.1, (vecR f n bs e).2.2 ++ [(f (vecR f n bs e).1 (vecR f n bs e).2.1).2.2])
  | 0, _, _ => rfl
  | n + 1, bs, e => by
    have ih := vec_snoc f n (f bs e).1 (f bs e).2.1
    show ((vecR f (n + 1) (f bs e).1 (f bs e).2.1).1, (vecR f (n + 1) (f bs e).1 (f bs e).2.1).2.1, (f bs e).2.2 :: (vecR f (n + 1) (f bs e).1 (f bs e).2.1).2.2) = _
    rw [ih]
    rfl
theorem vec_len {α : Type} (f : Rd α) : ∀ (n : Nat) (bs : List Int) (e : Int), (vecR f n bs e).2.2.length = n
  | 0, _, _ => rfl
  | n + 1, bs, e => by
    show ((f bs e).2.2 :: (vecR f n (f bs e).1 (f bs e).2.1).2.2).length = _
    rw [List.length_cons, vec_len f n]
/-- What was wrong stays, and nothing more is read. -/
theorem vec_stay {α : Type} {f : Rd α} (hf : ∀ bs e, e ≠ 0 → (f bs e).1 = bs ∧ (f bs e).2.1 = e) (bs : List Int) (e : Int) (j : Nat) (h : (vecR f j bs e).2.1 ≠ 0) : ∀ k, (vecR f (j + k) bs e).1 = (vecR f j bs e).1 ∧ (vecR f (j + k) bs e).2.1 = (vecR f j bs e).2.1
  | 0 => ⟨rfl, rfl⟩
  | k + 1 => by
    obtain ⟨h1, h2⟩ := vec_stay hf bs e j h k
    rw [← Nat.add_assoc, vec_snoc]
    dsimp only
    rw [h1, h2]
    exact hf _ _ h
theorem vec_stay' {α : Type} {f : Rd α} (hf : ∀ bs e, e ≠ 0 → (f bs e).1 = bs ∧ (f bs e).2.1 = e) {bs : List Int} {e : Int} {j n : Nat} (hj : j ≤ n) (h : (vecR f j bs e).2.1 ≠ 0) : (vecR f n bs e).1 = (vecR f j bs e).1 ∧ (vecR f n bs e).2.1 = (vecR f j bs e).2.1 := by
  have := vec_stay hf bs e j h (n - j)
  rwa [show j + (n - j) = n by omega] at this
theorem num_bad (most : Nat) : ∀ bs e, e ≠ 0 → (numR most bs e).1 = bs ∧ (numR most bs e).2.1 = e := (num_form most).bad
theorem pair_bad : ∀ bs e, e ≠ 0 → (pairR bs e).1 = bs ∧ (pairR bs e).2.1 = e := pair_form.bad
theorem level_bad : ∀ bs e, e ≠ 0 → (levelR bs e).1 = bs ∧ (levelR bs e).2.1 = e := level_form.bad
theorem num_le (most : Nat) (bs : List Int) (e : Int) : (numR most bs e).2.2 ≤ most := by
  unfold numR rNum
  split
  · exact Nat.zero_le _
  · rename_i h
    unfold rnum at h ⊢
    split
    · exact Nat.zero_le _
    · split
      · exact Nat.zero_le _
      · split
        · exact Nat.zero_le _
        · dsimp only
          omega
theorem pair_le (bs : List Int) (e : Int) : (pairR bs e).2.2.1 ≤ maxT ∧ (pairR bs e).2.2.2 ≤ maxT := ⟨num_le _ _ _, num_le _ _ _⟩
theorem vec_all {α : Type} {f : Rd α} {P : α → Prop} (hf : ∀ bs e, P (f bs e).2.2) : ∀ (n : Nat) (bs : List Int) (e : Int), ∀ x ∈ (vecR f n bs e).2.2, P x
  | 0, _, _ => by
    intro x hx
    cases hx
  | n + 1, bs, e => by
    intro x hx
    rcases List.mem_cons.1 hx with rfl | hx
    · exact hf _ _
    · exact vec_all hf n _ _ x hx
theorem level_le (bs : List Int) (e : Int) : (levelR bs e).2.2.length ≤ 1025 ∧ ∀ p ∈ (levelR bs e).2.2, p.1 ≤ maxT ∧ p.2 ≤ maxT := by
  refine ⟨?_, fun p hp => vec_all (P := fun p => p.1 ≤ maxT ∧ p.2 ≤ maxT) pair_le _ _ _ p hp⟩
  show (vecR pairR (numR 1025 bs e).2.2 _ _).2.2.length ≤ 1025
  rw [vec_len]
  exact num_le _ _ _
/-- Whatever is read, is within the bounds. -/
theorem raw_le (bs : List Int) (e : Int) : rawP (rawR bs e).2.2 := by
  refine ⟨num_le _ _ _, num_le _ _ _, ?_, fun l hl => vec_all (P := fun l => l.length ≤ 1025 ∧ ∀ p ∈ l, p.1 ≤ maxT ∧ p.2 ≤ maxT) level_le _ _ _ l hl⟩
  show (vecR levelR (numR 52 _ _).2.2 _ _).2.2.length ≤ 52
  rw [vec_len]
  exact num_le _ _ _
theorem okB_drop {bs : List Int} (h : okB bs) (k : Nat) : okB (bs.drop k) := fun x hx => h x (List.mem_of_mem_drop hx)
theorem okB_num {bs : List Int} (h : okB bs) (most : Nat) (e : Int) : okB (numR most bs e).1 := by
  obtain ⟨k, hk⟩ := num_drop most bs e
  rw [hk]
  exact okB_drop h k
theorem pair_drop (bs : List Int) (e : Int) : ∃ k, (pairR bs e).1 = bs.drop k := bind_drop (num_drop maxT) (fun _ => num_drop maxT) bs e
theorem level_drop (bs : List Int) (e : Int) : ∃ k, (levelR bs e).1 = bs.drop k := list_drop pair_drop 1025 bs e
theorem okB_vec {α : Type} {f : Rd α} (hf : ∀ bs e, ∃ k, (f bs e).1 = bs.drop k) {bs : List Int} (h : okB bs) (n : Nat) (e : Int) : okB (vecR f n bs e).1 := by
  obtain ⟨k, hk⟩ := vec_drop hf n bs e
  rw [hk]
  exact okB_drop h k
theorem okB_level {bs : List Int} (h : okB bs) (e : Int) : okB (levelR bs e).1 := by
  obtain ⟨k, hk⟩ := level_drop bs e
  rw [hk]
  exact okB_drop h k
theorem okB_raw {bs : List Int} (h : okB bs) (e : Int) : okB (rawR bs e).1 := by
  obtain ⟨k, hk⟩ := raw_drop bs e
  rw [hk]
  exact okB_drop h k
theorem okB_take {bs : List Int} (h : okB bs) (e : Int) : okB (takeM bs e).1 := by
  obtain ⟨k, hk⟩ := take_drop bs e
  rw [hk]
  exact okB_drop h k
theorem num_len (most : Nat) (bs : List Int) (e : Int) : (numR most bs e).1.length ≤ bs.length := by
  obtain ⟨k, hk⟩ := num_drop most bs e
  rw [hk, List.length_drop]
  omega

/-! ### Ticks, round by round -/

theorem endT_snoc (a : Nat) (l : List Sp) (b : Sp) : endT a (l ++ [b]) = b.2 := by
  unfold endT
  simp
theorem endT_app (a : Nat) (xs ys : List Sp) : endT a (xs ++ ys) = endT (endT a xs) ys := by
  unfold endT
  rw [List.getLast?_append]
  cases h : ys.getLast? <;> simp
theorem encSp_snoc : ∀ (l : List Sp) (a : Nat) (b : Sp), encSp a (l ++ [b]) = encSp a l ++ [(b.1 - endT a l, b.2 - b.1)]
  | [], _, _ => rfl
  | c :: l, a, b => by
    rw [List.cons_append, encSp, encSp_snoc l, encSp, endT_cons]
    rfl
theorem encLv_snoc : ∀ (r : List (List Sp)) (a : Nat) (l : List Sp), encLv a (r ++ [l]) = encLv a r ++ [encSp (endT a r.flatten) l]
  | [], _, _ => rfl
  | c :: r, a, l => by
    rw [List.cons_append, encLv, encLv_snoc r, encLv, List.flatten_cons, endT_app]
    rfl
/-- A bucket in turn. -/
theorem turn_at {a : Nat} {xs ys : List Sp} {b : Sp} (h : inTurn a (xs ++ b :: ys) = true) : endT a xs ≤ b.1 ∧ b.1 ≤ b.2 ∧ b.2 ≤ maxT := by
  rw [inTurn_app, Bool.and_eq_true, inTurn, Bool.and_eq_true, decide_eq_true_iff] at h
  obtain ⟨-, ⟨h1, h2, h3⟩, -⟩ := h
  exact ⟨h2, h1, h3⟩
theorem endT_le {a : Nat} {xs ys : List Sp} (ha : a ≤ maxT) (h : inTurn a (xs ++ ys) = true) : endT a xs ≤ maxT := by
  rw [inTurn_app, Bool.and_eq_true] at h
  exact (enc_dec xs a ha h.1).2.1

theorem decSp_snoc : ∀ (l : List (Nat × Nat)) (a : Nat) (p : Nat × Nat), decSp a (l ++ [p]) = ((decSp a l).1 ++ [spOf (decSp a l).2 p.1 p.2], nextA p.1 (spOf (decSp a l).2 p.1 p.2))
  | [], _, _ => rfl
  | c :: l, a, p => by
    rw [List.cons_append, decSp, decSp_snoc l, decSp]
    rfl
theorem decLv_snoc : ∀ (r : List (List (Nat × Nat))) (a : Nat) (l : List (Nat × Nat)), decLv a (r ++ [l]) = ((decLv a r).1 ++ [(decSp (decLv a r).2 l).1], (decSp (decLv a r).2 l).2)
  | [], _, _ => rfl
  | c :: r, a, l => by
    rw [List.cons_append, decLv, decLv_snoc r, decLv]
    rfl
theorem nextA_lt (x a y z : Nat) : nextA x (spOf a y z) < 18446744073709551616 := by
  unfold nextA
  split
  · omega
  · show wr (a + y + z) < _
    exact Nat.mod_lt _ (by omega)
theorem decSp_lt : ∀ (l : List (Nat × Nat)) (a : Nat), a < 18446744073709551616 → (decSp a l).2 < 18446744073709551616
  | [], _, h => h
  | _ :: l, _, _ => decSp_lt l _ (nextA_lt _ _ _ _)

/-! ### Ticks that count no further -/

def satT (a n : Nat) : Nat := min (a + n) 9223372036854775808
def satSp : Nat → List (Nat × Nat) → List Sp × Nat
  | a, [] => ([], a)
  | a, p :: l => ((satT a p.1, satT (satT a p.1) p.2) :: (satSp (satT (satT a p.1) p.2) l).1, (satSp (satT (satT a p.1) p.2) l).2)
def satLv : Nat → List (List (Nat × Nat)) → List (List Sp) × Nat
  | a, [] => ([], a)
  | a, l :: r => ((satSp a l).1 :: (satLv (satSp a l).2 r).1, (satLv (satSp a l).2 r).2)
theorem satSp_snoc : ∀ (l : List (Nat × Nat)) (a : Nat) (p : Nat × Nat), satSp a (l ++ [p]) = ((satSp a l).1 ++ [(satT (satSp a l).2 p.1, satT (satT (satSp a l).2 p.1) p.2)], satT (satT (satSp a l).2 p.1) p.2)
  | [], _, _ => rfl
  | c :: l, a, p => by
    rw [List.cons_append, satSp, satSp_snoc l, satSp]
    rfl
theorem satLv_snoc : ∀ (r : List (List (Nat × Nat))) (a : Nat) (l : List (Nat × Nat)), satLv a (r ++ [l]) = ((satLv a r).1 ++ [(satSp (satLv a r).2 l).1], (satSp (satLv a r).2 l).2)
  | [], _, _ => rfl
  | c :: r, a, l => by
    rw [List.cons_append, satLv, satLv_snoc r, satLv]
    rfl
theorem satSp_len : ∀ (l : List (Nat × Nat)) (a : Nat), (satSp a l).1.length = l.length
  | [], _ => rfl
  | p :: l, a => by
    show (satSp _ l).1.length + 1 = l.length + 1
    rw [satSp_len l]
theorem satLv_len : ∀ (r : List (List (Nat × Nat))) (a : Nat), (satLv a r).1.length = r.length
  | [], _ => rfl
  | l :: r, a => by
    show (satLv _ r).1.length + 1 = r.length + 1
    rw [satLv_len r]
theorem satSp_le : ∀ (l : List (Nat × Nat)) (a : Nat), a ≤ 9223372036854775808 → (satSp a l).2 ≤ 9223372036854775808
  | [], _, h => h
  | _ :: l, _, _ => satSp_le l _ (Nat.min_le_right _ _)
theorem satLv_le : ∀ (r : List (List (Nat × Nat))) (a : Nat), a ≤ 9223372036854775808 → (satLv a r).2 ≤ 9223372036854775808
  | [], _, h => h
  | l :: r, a, h => satLv_le r _ (satSp_le l a h)
/-- In turn, both are the same; else none is. -/
theorem sat_dec : ∀ (l : List (Nat × Nat)) (a : Nat), a ≤ 9223372036854775808 → (∀ p ∈ l, p.1 ≤ maxT ∧ p.2 ≤ maxT) →
    inTurn a (satSp a l).1 = inTurn a (decSp a l).1 ∧ (inTurn a (decSp a l).1 = true → satSp a l = decSp a l)
  | [], _, _, _ => ⟨rfl, fun _ => rfl⟩
  | p :: l, a, ha, hp => by
    obtain ⟨hp1, hp2⟩ := hp p List.mem_cons_self
    unfold maxT at hp1 hp2
    have ed1 : (spOf a p.1 p.2).1 = a + p.1 := by
      show (a + p.1) % 18446744073709551616 = _
      omega
    have ed2 : (spOf a p.1 p.2).2 = (a + p.1 + p.2) % 18446744073709551616 := rfl
    rcases Nat.lt_or_ge (a + p.1 + p.2) 9223372036854775808 with h | h
    · have e1 : satT a p.1 = a + p.1 := by unfold satT; omega
      have e2 : satT (satT a p.1) p.2 = a + p.1 + p.2 := by rw [e1]; unfold satT; omega
      have e3 : (spOf a p.1 p.2).2 = a + p.1 + p.2 := by rw [ed2]; omega
      have hs : spOf a p.1 p.2 = (satT a p.1, satT (satT a p.1) p.2) := Prod.ext (by rw [ed1, e1]) (by rw [e3, e2])
      have hn : nextA p.1 (spOf a p.1 p.2) = satT (satT a p.1) p.2 := by
        unfold nextA maxT
        rw [if_neg (by rw [e3, ed1]; omega), e3, e2]
      obtain ⟨i1, i2⟩ := sat_dec l (satT (satT a p.1) p.2) (Nat.min_le_right _ _) (fun q hq => hp q (List.mem_cons_of_mem _ hq))
      rw [satSp, decSp]
      dsimp only
      rw [hs] at hn ⊢
      rw [hn, inTurn, inTurn]
      dsimp only
      rw [i1]
      refine ⟨rfl, fun hi => ?_⟩
      rw [Bool.and_eq_true] at hi
      rw [i2 hi.2]
    · have f1 : inTurn a (satSp a (p :: l)).1 = false := by
        rw [satSp]
        dsimp only
        rw [inTurn, Bool.and_eq_false_iff]
        refine .inl ?_
        rw [decide_eq_false_iff_not]
        dsimp only
        have : satT (satT a p.1) p.2 = 9223372036854775808 := by unfold satT; omega
        omega
      have f2 : inTurn a (decSp a (p :: l)).1 = false := by
        rw [decSp]
        dsimp only
        rw [inTurn, Bool.and_eq_false_iff]
        refine .inl ?_
        rw [decide_eq_false_iff_not, ed1, ed2]
        omega
      rw [f1, f2]
      exact ⟨rfl, fun h => by cases h⟩
theorem sat_decL : ∀ (r : List (List (Nat × Nat))) (a : Nat), a ≤ 9223372036854775808 → (∀ l ∈ r, ∀ p ∈ l, p.1 ≤ maxT ∧ p.2 ≤ maxT) →
    inTurn a (satLv a r).1.flatten = inTurn a (decLv a r).1.flatten ∧ (inTurn a (decLv a r).1.flatten = true → (satLv a r).1 = (decLv a r).1)
  | [], _, _, _ => ⟨rfl, fun _ => rfl⟩
  | l :: r, a, ha, hp => by
    obtain ⟨i1, i2⟩ := sat_dec l a ha (hp l List.mem_cons_self)
    rw [satLv, decLv]
    dsimp only
    rw [List.flatten_cons, List.flatten_cons, inTurn_app, inTurn_app, i1]
    by_cases h : inTurn a (decSp a l).1 = true
    · have e := i2 h
      rw [h, Bool.true_and, Bool.true_and, e]
      have hle : (decSp a l).2 ≤ 9223372036854775808 := by rw [← e]; exact satSp_le l a ha
      obtain ⟨j1, j2⟩ := sat_decL r (decSp a l).2 hle (fun l' hl => hp l' (List.mem_cons_of_mem _ hl))
      rcases Nat.lt_or_ge a 9223372036854775808 with ha2 | ha2
      · obtain ⟨-, k2⟩ := dec_enc l a (by unfold maxT; omega) (hp l List.mem_cons_self) h
        have k3 : ((decSp a l).1.getLast?.map (·.2)).getD a = (decSp a l).2 := k2.symm
        rw [k3]
        exact ⟨j1, fun hi => by rw [j2 hi]⟩
      · match l, h, e with
        | [], h, e =>
          show inTurn a _ = inTurn a _ ∧ _
          exact ⟨j1, fun hi => by rw [j2 hi]⟩
        | p :: l, h, e =>
          rw [← e] at h
          rw [satSp] at h
          dsimp only at h
          rw [inTurn, Bool.and_eq_true, decide_eq_true_iff] at h
          have h3 := h.1.2.2
          dsimp only at h3
          have : satT (satT a p.1) p.2 = 9223372036854775808 := by unfold satT; omega
          omega
    · rw [Bool.eq_false_iff.2 h, Bool.false_and, Bool.false_and]
      exact ⟨rfl, fun h => by cases h⟩

def satM (x : Raw) : Hm := ((x.1 : Int), (x.2.1 : Int), (satLv 0 x.2.2).1.reverse)
theorem good_turn {k : Nat} {ls : Lv} (h : goodB k ls = true) : inTurn 0 ls.reverse.flatten = true := (good_parts h).2.2
/-- Counting no further tells the same of what may be. -/
theorem sat_chk {x : Raw} (hp : rawP x) : chk (satM x).1 (satM x).2.1 (satM x).2.2 = chk (toM x).1 (toM x).2.1 (toM x).2.2 ∧ (chk (toM x).1 (toM x).2.1 (toM x).2.2 = 0 → satM x = toM x) := by
  obtain ⟨k, g, r⟩ := x
  obtain ⟨i1, i2⟩ := sat_decL r 0 (by omega) (fun l hl => (hp.2.2.2 l hl).2)
  unfold satM toM
  dsimp only
  by_cases h : inTurn 0 (decLv 0 r).1.flatten = true
  · rw [i2 h]
    exact ⟨rfl, fun _ => rfl⟩
  · have n1 : ∀ k, goodB k (satLv 0 r).1.reverse ≠ true := fun k hg => h (by have := good_turn hg; rw [List.reverse_reverse, i1] at this; exact this)
    have n2 : ∀ k, goodB k (decLv 0 r).1.reverse ≠ true := fun k hg => h (by have := good_turn hg; rwa [List.reverse_reverse] at this)
    unfold chk
    rw [if_neg (n1 _), if_neg (n2 _)]
    refine ⟨rfl, fun hc => ?_⟩
    split at hc <;> simp at hc
/-- What Take tells, out of what was read. -/
theorem take_sat {bs : List Int} {e : Int} : takeM bs e = if (rawR bs e).2.1 ≠ 0 then ((rawR bs e).1, (rawR bs e).2.1, (0, 0, [])) else if chk (satM (rawR bs e).2.2).1 (satM (rawR bs e).2.2).2.1 (satM (rawR bs e).2.2).2.2 ≠ 0 then ((rawR bs e).1, 2, (0, 0, [])) else ((rawR bs e).1, 0, satM (rawR bs e).2.2) := by
  obtain ⟨h1, h2⟩ := sat_chk (raw_le bs e)
  unfold takeM
  rw [h1]
  split
  · rfl
  · split
    · rfl
    · rename_i hc
      rw [h2 (by simpa using hc)]
end Go.Proofs.Rc
end
section
/- The contracts of varint.digits, its closure, and varint.Put. -/
namespace Go.Proofs.Ytmdknedngiggdaa
open Go.RowKit Go.Shelf Go.Proofs.Vm

attribute [local go_sem] Oper.semAt_some

abbrev encs (p : Int × Bool) : Array Value := #[.int .u8 p.1, .bool p.2]

/-- What is appended for a digit. -/
def vbyteW (p : Int × Bool) : Int := if p.2 then p.1 else IntKind.u8.wrap (p.1 + 128)

theorem vputW_map (n : Nat) : ((vdig n).map fun p => Value.int .u8 (vbyteW p)) = (vput n).map (Value.int .u8) := by
  induction n using Nat.strongRecOn with
  | _ n ih =>
    by_cases h : n < 128
    · rw [vdig_lt h, vput_lt h]; simp [vbyteW]; omega
    · rw [vdig_ge h, vput_ge h, List.map_cons, ih (n / 128) (by omega)]; simp only [vbyteW, List.map_cons, List.cons.injEq, Bool.false_eq_true, if_false, and_true]; rw [IntWalk.u8_in _ (by omega)]; congr 1

set_option maxRecDepth 100000 in
set_option maxHeartbeats 1000000 in
theorem digits1_in (F : Fence) (n : Nat) (h6 : F.fn 90) (hro : F.round = none) (hn : 1 ≤ n) (l Bn : Nat) (n₀ : Nat) (x : Nat) (hx : x < 18446744073709551616) (J Jx : List (Int × Bool) → World → Prop)
    (hY : ∀ pre p W, J pre W → pre.length < (vdig x).length → YieldAt F (n - 1) Try.prog l (encs p) W fun e W' =>
      (e = .returned (.bool true) ∧ J (pre ++ [p]) W' ∧ Below n₀ W W') ∨ (e = .returned (.bool false) ∧ Jx (pre ++ [p]) W'))
    (W : World) (hBn : W.cell? ⟨Bn, 0, none⟩ = some (.int .u64 x)) (h0 : J [] W) :
    CallsIn F n Try.prog 90 #[.func (.yield l) #[] #[], .pointer (some ⟨Bn, 0, none⟩)] W fun e W' => (∃ v, e = .returned v) ∧
      ((∃ ys, ys = vdig x ∧ J ys W') ∨ (∃ pre, pre <+: vdig x ∧ Jx pre W')) := by
  refine callsIn_of_wp Try.func90 rfl h6 ?_ hro
  simp only [Try.ntmps90, List.size_toArray, List.length_cons, List.length_nil, Nat.reduceAdd, Nat.reduceSub, Array.replicate_succ, Array.replicate_zero, List.push_toArray, List.append_toArray, List.nil_append, List.cons_append]
  gi_wp2
  gi_loopw [3] (fun p wr => ∃ (pre : List (Int × Bool)) (r : Nat), p = .int .u64 r ∧ r ≤ x ∧ vdig x = pre ++ vdig r ∧ J pre wr)
    (fun p _ => (intOf p).toNat)
  case atStart =>
    exact ⟨[], x, rfl, Nat.le_refl _, rfl, h0⟩
  case round =>
    obtain ⟨pre, r, rfl, hr, hd, hJs⟩ := hrel
    by_cases hlt : r < 128
    · rw [vdig_lt hlt] at hd
      obtain ⟨fn, tmps, assign, body, hy, hR⟩ := hY pre ((r : Int) % 128, true) wr hJs (by rw [hd]; simp)
      dsimp only [encs] at hy
      have HD := Lib.hid hd
      clear hd
      have hb : decide ((r : Int) < 128) = true := by simp; omega
      gi_wp2
      refine hR.mono ?_
      rintro e W3 (⟨rfl, hJ3, hk3⟩ | ⟨rfl, hJx3⟩)
      · gi_wp2
        refine bodyPost_ret (results_none rfl _ _ _) rfl ?_
        exact ⟨⟨_, rfl⟩, .inl ⟨_, HD.out.symm, hJ3⟩⟩
      · gi_wp2
        refine bodyPost_ret (results_none rfl _ _ _) rfl ?_
        exact ⟨⟨_, rfl⟩, .inr ⟨_, by rw [HD.out]; exact List.prefix_refl _, hJx3⟩⟩
    · rw [vdig_ge hlt] at hd
      obtain ⟨fn, tmps, assign, body, hy, hR⟩ := hY pre ((r : Int) % 128, false) wr hJs (by rw [hd]; simp)
      dsimp only [encs] at hy
      have HD := Lib.hid hd
      clear hd
      have hb : decide ((r : Int) < 128) = false := by simp; omega
      gi_wp2
      refine hR.mono ?_
      rintro e W3 (⟨rfl, hJ3, hk3⟩ | ⟨rfl, hJx3⟩)
      · gi_wp2
        go_roundw
        case rel => exact ⟨pre ++ [((r : Int) % 128, false)], r / 128, by simp, by omega, by rw [HD.out]; simp, hJ3⟩
        case measure => simp [intOf]; omega
      · gi_wp2
        refine bodyPost_ret (results_none rfl _ _ _) rfl ?_
        exact ⟨⟨_, rfl⟩, .inr ⟨_, by rw [HD.out]; exact ⟨vdig (r / 128), by simp⟩, hJx3⟩⟩

set_option maxHeartbeats 1000000 in
theorem digits_in (F : Fence) (n : Nat) (h5 : F.fn 74) (hro : F.round = none) (x : Int) (w : World) :
    CallsIn F n Try.prog 74 #[.int .u64 x] w fun e w' => e = .returned (.func (.func 90) #[] #[.pointer (some ⟨w.heap.size, 0, none⟩)]) ∧ w' = w.alloc (.cells #[.int .u64 x] 61) := by
  refine callsIn_of_wp Try.func74 rfl h5 ?_ hro
  simp only [Try.ntmps74, List.size_toArray, List.length_cons, List.length_nil, Nat.reduceAdd, Nat.reduceSub, Array.replicate_succ, Array.replicate_zero, List.push_toArray, List.append_toArray, List.nil_append, List.cons_append]
  gi_wp2
  go_ret
  exact ⟨rfl, rfl⟩

theorem digits_stops (F : Fence) (n : Nat) (h6 : F.fn 90) (hro : F.round = none) (hn : 1 ≤ n) (Bn n₀ : Nat) (x : Nat) (hx : x < 18446744073709551616) (w : World) (hBn : Bn < w.heap.size)
    (hc : w.cell? ⟨Bn, 0, none⟩ = some (.int .u64 x)) :
    SeqStopsK F n Try.prog 90 #[.pointer (some ⟨Bn, 0, none⟩)] encs (Below n₀) (fun ys => ys = vdig x) (fun pre => pre <+: vdig x) (vdig x).length w := fun l J Jx W hW _ _ hY h0 =>
  digits1_in F n h6 hro hn l Bn n₀ x hx J Jx hY W ((hW.cell (p := ⟨Bn, 0, none⟩) hBn).trans hc) h0

theorem info5 : (Try.prog.info? 5).map (fun i => (i.zero, i.size, i.bytes)) = some (some (.int .u8 0), 1, 1) := by kernel_rfl

set_option maxRecDepth 100000 in
set_option maxHeartbeats 2000000 in
theorem put_in (F : Fence) (n : Nat) (h11 : F.fn 51) (h15 : F.fn 74) (h16 : F.fn 90) (hro : F.round = none) (hn : 3 ≤ n) (x : Nat) (hx : x < 18446744073709551616) (w : World) :
    CallsIn F n Try.prog 51 #[.int .u64 x] w fun e W' => ∃ v, e = .returned v ∧ W'.ownsRow w.heap.size 5 1 v (vput x).length ((vput x).map (Value.int .u8)) ∧ Below w.heap.size w W' := by
  have h1 : 1 ≤ n := by omega
  obtain ⟨i0, hi, hz0, hz1, hz2⟩ := info_parts info5
  refine callsIn_of_wp_marks Try.func51 rfl h11 ?_ hro
  simp only [Try.ntmps51, List.size_toArray, List.length_cons, List.length_nil, Nat.reduceAdd, Nat.reduceSub, Array.replicate_succ, Array.replicate_zero, List.push_toArray, List.append_toArray, List.nil_append, List.cons_append]
  gi_wp2_with (first | (gi_at_call 74; refine (digits_in F (n - 1) h15 hro _ _).mono ?_; rintro e w' ⟨rfl, rfl⟩) | (gi_at_make; refine wpListIn_make_own _ rfl _ _ 28 rfl w.heap.size 5 i0 (.int .u8 0) 1 Try.underlying28 hi hz0 hz1 .i64 .i64 10 10 rfl rfl rfl (by rw [hz2]; decide) (by decide) (Nat.le_refl _) ?_; intro wm hown hgm))
  have bO := Boxed.new wm 28 (.slice (some ⟨w.heap.size, 0, none⟩) 0 10)
  have bN := Boxed.new (wm.alloc (.cells #[.slice (some ⟨w.heap.size, 0, none⟩) 0 10] 28)) 61 (.int .u64 x)
  rw [World.size_alloc] at bN
  have hwm : w.heap.size < wm.heap.size := (hown.lt _ rfl).2
  have hB0 : Below w.heap.size w ((wm.alloc (.cells #[.slice (some ⟨w.heap.size, 0, none⟩) 0 10] 28)).alloc (.cells #[.int .u64 x] 61)) := (((Below.refl _ w).grown hgm (Nat.le_refl _) (fun j e => by cases e)).alloc (by omega) _).alloc (by simp; omega) _
  refine wpIn_rangeFunc_ownG hro h1 (gf := 90) (lb := #[.pointer (some ⟨wm.heap.size + 1, 0, none⟩)]) rfl h16 (enters_of Try.func90 (by kernel_rfl) rfl)
    (digits_stops F (n - 1) h16 hro (by omega) (wm.heap.size + 1) w.heap.size x hx _ (by simp) bN.cell) belowK_t (belowK_b (by simp; omega)) (Below.refl _ _) (fun _ => rfl)
    (fun pre W => (∃ v, Boxed W wm.heap.size 28 v ∧ W.ownsRow w.heap.size 5 1 v pre.length (pre.map fun p => Value.int .u8 (vbyteW p)) ∧ True) ∧ Below w.heap.size w W)
    (fun _ _ _ => False)
    (OwnFrom.and (Own.from (holdsRow_own w.heap.size wm.heap.size 28 5 1 (fun pre : List (Int × Bool) => pre.length) (fun pre : List (Int × Bool) => pre.map fun p => Value.int .u8 (vbyteW p)) (fun _ _ => True)) _) (ownFrom_below (Nat.le_refl _) (by simp; omega)))
    (fun _ _ _ _ _ hs _ _ => hs)
    ⟨⟨_, bO.alloc _, (hown.alloc _).alloc _, trivial⟩, hB0⟩
    (fun p => { tmps := #[Value.int IntKind.u64 ↑x, undef, Value.slice none 0 0,
          Value.pointer (some { block := wm.heap.size, off := 0 }), .int .u8 p.1, .bool p.2,
          Value.slice (some { block := w.heap.size, off := 0 }) 0 10, Value.int IntKind.u64 ↑x,
          Value.func (Fn.func 90) #[] #[Value.pointer (some { block := wm.heap.size + 1, off := 0 })], .int .u8 p.1, .bool p.2,
          undef, undef, undef, undef, undef, undef, undef, undef, undef], defers := [] }) ?assign ?body ?done ?stop
  case assign =>
    intro l p W K hK
    gi_wp2
    exact hK
  case body =>
    rintro l pre ⟨d, b⟩ W ⟨⟨v, hv, hrow, _⟩, hB⟩ hlt
    have hc := hv.cell
    have hpl : pre.length < 10 := Nat.lt_of_lt_of_le hlt (by rw [vdig_len]; exact vput_len10 x (by omega))
    clear hlt
    cases b
    · gi_wp2_with (gi_at_builtin; refine wpListIn_append_own _ rfl _ _ 28 rfl w.heap.size 5 i0 (.int .u8 0) 1 1 Try.underlying28 hi hz0 hz1 hz2 rfl (by decide) _ _ _ rfl (hrow.alloc _) ⟨W.heap.size, 0, none⟩ 1 1 [.int .u8 (vbyteW (d, false))] rfl rfl (cell_one_new _ _ _) (by simp [Value.oneCell']) (by unfold maxLen; omega) (by omega) (by have := hB.size; simp; omega) ?_; intro v' w1 hown' hgrow _; obtain ⟨g', cap', rfl⟩ := ownsRow_succ hown'; obtain ⟨hv1, hv2, hr2, hk2, hb2⟩ := hv.appended (by decide) hrow hB.size (by omega) hown' hgrow; have hc1 := hv1.cell; have hf1 := hv1.frozen)
      exact ⟨hk2.from _, hb2, ⟨_, hv2, by simpa using hr2, trivial⟩, hB.trans hb2⟩
    · gi_wp2_with (gi_at_builtin; refine wpListIn_append_own _ rfl _ _ 28 rfl w.heap.size 5 i0 (.int .u8 0) 1 1 Try.underlying28 hi hz0 hz1 hz2 rfl (by decide) _ _ _ rfl (hrow.alloc _) ⟨W.heap.size, 0, none⟩ 1 1 [.int .u8 (vbyteW (d, true))] rfl rfl (cell_one_new _ _ _) (by simp [Value.oneCell']) (by unfold maxLen; omega) (by omega) (by have := hB.size; simp; omega) ?_; intro v' w1 hown' hgrow _; obtain ⟨g', cap', rfl⟩ := ownsRow_succ hown'; obtain ⟨hv1, hv2, hr2, hk2, hb2⟩ := hv.appended (by decide) hrow hB.size (by omega) hown' hgrow; have hc1 := hv1.cell; have hf1 := hv1.frozen)
      exact ⟨hk2.from _, hb2, ⟨_, hv2, by simpa using hr2, trivial⟩, hB.trans hb2⟩
  case done =>
    rintro D ys W hD rfl ⟨⟨v, hv, hrow, _⟩, hB⟩ hK
    have hc := hv.cell
    gi_wp2
    refine ⟨by simp, .inl ⟨_, _, rfl, run_takeDeferred hK, ?_⟩⟩
    refine ⟨_, results_tmp rfl _ _ _, v, rfl, ?_, hB.trans (belowK_b (w := w) (Nat.le_refl _) W D _ _ (by simp at hD; omega) hK rfl rfl)⟩
    have := ownsRow_putObj hrow (.deferred none) hK rfl
    rw [vdig_len, vputW_map] at this
    exact this
  case stop =>
    rintro D c pre W _ _ h _
    exact h.elim

/-- varint.Put, in whatever memory. -/
theorem put_any (x : Nat) (hx : x < 18446744073709551616) (w : World) :
    Calls Try.prog 51 #[.int .u64 x] w fun e W' => ∃ v, e = .returned v ∧ W'.ownsRow w.heap.size 5 1 v (vput x).length ((vput x).map (Value.int .u8)) ∧ Below w.heap.size w W' :=
  (callsIn_wide (n := 3)).1 (put_in _ 3 trivial trivial trivial rfl (by omega) x hx w)

end Go.Proofs.Ytmdknedngiggdaa
end
section
/- The contracts of varint.mayEnd and varint.Take. -/
namespace Go.Proofs.Ytmdknedngiggdaa
open Go.RowKit Go.Proofs.Vm

theorem mayEnd_any (d : Int) (i : Nat) (w : World) : Calls Try.prog 97 #[.int .u8 d, .int .i64 i] w fun e w' => e = .returned (.bool (mayB d i)) ∧ w = w' := by
  by_cases h0 : d = 0
  · subst h0
    go_enter Try.func97, Try.ntmps97
    go_wp2
    go_ret
    exact ⟨by simp only [mayB, if_true]; exact congrArg (fun b => Ending.returned (.bool b)) (by rw [Bool.eq_iff_iff]; simp), rfl⟩
  · have h1 : (d == 0) = false := by simpa using h0
    by_cases h9 : i < 9
    · have h9' : decide ((i : Int) < 9) = true := by simp; omega
      go_enter Try.func97, Try.ntmps97
      go_wp2
      go_ret
      exact ⟨by simp [mayB, h0, h9], rfl⟩
    · have h9' : decide ((i : Int) < 9) = false := by simp; omega
      go_enter Try.func97, Try.ntmps97
      go_wp2
      go_ret
      exact ⟨by simp [mayB, h0, h9], rfl⟩

/-- The three results of varint.Take. -/
def tk (r : Nat × Nat × Nat) : Ending := .returned (.tuple #[.int .u64 (r.1 : Int), .int .i64 (r.2.1 : Int), .int .i64 (r.2.2 : Int)])

theorem or_word (bs : List Int) (k : Nat) (hk : k < 10) (d : Int) (hd : bs.getD k 0 = d) (h0 : 0 ≤ d) : bits BinOp.or IntKind.u64 (vacc bs k : Int) (IntKind.u64.wrap (d % 128 * 2 ^ (7 * k))) = (vacc bs (k + 1) : Int) := by
  obtain ⟨m, rfl⟩ : ∃ m : Nat, d = m := ⟨d.toNat, by omega⟩
  have e : IntKind.u64.wrap ((m : Int) % 128 * 2 ^ (7 * k)) = ((m % 128 * 2 ^ (7 * k) % 18446744073709551616 : Nat) : Int) := by
    rw [IntKind.wrap_u64, Int.natCast_emod, Int.natCast_mul, Int.natCast_emod, Int.natCast_pow]; rfl
  have h1 : vacc bs k < 18446744073709551616 := Nat.mod_lt _ (by omega)
  rw [e, bits_or_u64_nat _ _ h1 (Nat.mod_lt _ (by omega)), ← vacc_step bs k hk, hd, Int.toNat_natCast]

theorem tk_mk {x y z : Int} {r : Nat × Nat × Nat} (h1 : x = r.1) (h2 : y = r.2.1) (h3 : z = r.2.2) : Ending.returned (.tuple #[.int .u64 x, .int .i64 y, .int .i64 z]) = tk r := by rw [h1, h2, h3]; rfl

set_option maxHeartbeats 1000000 in
theorem take_some (b off : Nat) (bs : List Int) (hbs : ∀ x ∈ bs, 0 ≤ x ∧ x ≤ 255) (cap : Nat) (w : World) (hlen : bs.length ≤ maxLen) (hc : ∀ j, j < bs.length → w.cell? ⟨b, off + j, none⟩ = some (.int .u8 (bs.getD j 0))) :
    Calls Try.prog 91 #[.slice (some ⟨b, off, none⟩) bs.length cap] w fun e w' => e = tk (vtake bs) ∧ w = w' := by
  unfold maxLen at hlen
  have HC := Lib.hid hc
  clear hc
  rcases (by omega : bs.length < 10 ∨ (10 ≤ bs.length ∧ bs.length ≤ 10) ∨ 10 < bs.length) with h10 | ⟨h10, h10'⟩ | h10
  all_goals
    go_enter Try.func91, Try.ntmps91
    go_wp2
    go_loop [5, 10] (fun n i => ∃ k : Nat, k ≤ bs.length ∧ k ≤ 10 ∧ i = .int .i64 k ∧ n = .int .u64 (vacc bs k : Int) ∧ Hid (∀ j, j < k → 128 ≤ bs.getD j 0)) (fun _ i => 10 - (intOf i).toNat)
    case atStart => exact ⟨0, by omega, by omega, rfl, rfl, fun j h => absurd h (by omega)⟩
    case round =>
      obtain ⟨k, hk, hk10, rfl, rfl, Hj⟩ := hrel
      by_cases hlt : k < bs.length ∧ k < 10
      · obtain ⟨hl1, hl2⟩ := hlt
        have hcell : w.cell? ⟨b, off + k, none⟩ = some (.int .u8 (bs.getD k 0)) := HC.out k hl1
        have hb := hbs (bs.getD k 0) (by rw [List.getD_eq_getElem?_getD, List.getElem?_eq_getElem hl1]; exact List.getElem_mem hl1)
        obtain ⟨d, hd⟩ : ∃ d, bs.getD k 0 = d := ⟨_, rfl⟩
        rw [hd] at hcell hb
        have HO := Lib.hid (or_word bs k hl2 d hd hb.1)
        have HD := Lib.hid hd
        clear hd hbs
        by_cases hge : 128 ≤ d
        · go_wp2_with fail
          go_round
          case rel =>
            refine ⟨k + 1, by omega, by omega, by go_num, by rw [HO.out], fun j h => ?_⟩
            rcases Nat.lt_or_ge j k with h' | h'
            · exact Hj.out j h'
            · obtain rfl : j = k := by omega
              rw [HD.out]; exact hge
          case measure => simp [intOf]; omega
        · have hmay := mayEnd_any d k w
          by_cases hm : mayB d k = true
          · have HM := Lib.hid hm
            rw [hm] at hmay
            clear hm
            go_wp2_with (go_at_call 97; refine hmay.mono ?_; clear hmay; rintro e w' ⟨rfl, rfl⟩)
            go_ret3
            refine ⟨?_, rfl⟩
            have hm := HM.out
            rw [← HD.out] at hm hb hge
            rw [vtake_ok Hj.out hl1 hl2 (by omega) hm, ← vacc_ok bs k hl2 hb.1 (by omega) hm]
            exact tk_mk HO.out rfl rfl
          · have hm' : mayB d k = false := by simpa using hm
            have HM := Lib.hid hm'
            rw [hm'] at hmay
            clear hm hm'
            go_wp2_with (go_at_call 97; refine hmay.mono ?_; clear hmay; rintro e w' ⟨rfl, rfl⟩)
            go_ret3
            refine ⟨?_, rfl⟩
            have hm := HM.out
            rw [← HD.out] at hm hb hge
            rw [vtake_form Hj.out hl1 hl2 (by omega) hm]
            rfl
      · have hlt' : bs.length ≤ k ∨ 10 ≤ k := by omega
        go_wp2
        go_ret3
        refine ⟨?_, rfl⟩
        first
          | (rw [vtake_short Hj.out hlt (by omega)]; rfl)
          | (rw [vtake_long Hj.out hlt (by omega)]; rfl)

theorem take_nil (A : Option Addr) (cap : Nat) (w : World) : Calls Try.prog 91 #[.slice A 0 cap] w fun e w' => e = tk (vtake []) ∧ w = w' := by
  go_enter Try.func91, Try.ntmps91
  go_wp2
  go_loop [5, 10] (fun n i => i = .int .i64 0 ∧ n = .int .u64 0) (fun _ i => 10 - (intOf i).toNat)
  case atStart => exact ⟨rfl, rfl⟩
  case round =>
    obtain ⟨rfl, rfl⟩ := hrel
    go_wp2
    go_ret3
    exact ⟨rfl, rfl⟩

end Go.Proofs.Ytmdknedngiggdaa
end
section
/- Bytes in memory: what varint.Put has made, as a string; varint.Take of bytes that lie somewhere. -/
namespace Go.Proofs.Ytmdknedngiggdaa
open Go.RowKit Go.Proofs.Vm

/-- The string of these bytes. -/
def strOf (bs : List Int) : ByteArray := ⟨(bs.map fun x => UInt8.ofNat x.toNat).toArray⟩

/-- The slice value v holds just the bytes bs, and lies below block B. -/
def Holds (w : World) (B : Nat) (v : Value) (bs : List Int) : Prop :=
  ∃ A cap, v = .slice A bs.length cap ∧ bs.length ≤ cap ∧ cap ≤ maxLen ∧ (bs = [] ∨ ∃ b off, b < B ∧ A = some ⟨b, off, none⟩ ∧ ∀ j, j < bs.length → w.cell? ⟨b, off + j, none⟩ = some (.int .u8 (bs.getD j 0)))

theorem Holds.keep {w w' : World} {B : Nat} {v : Value} {bs : List Int} (h : Holds w B v bs) (hk : ∀ b o, b < B → w'.cell? ⟨b, o, none⟩ = w.cell? ⟨b, o, none⟩) : Holds w' B v bs := by
  obtain ⟨A, cap, hv, h1, h2, h3⟩ := h
  refine ⟨A, cap, hv, h1, h2, ?_⟩
  rcases h3 with h3 | ⟨b, off, hb, hA, hc⟩
  · exact .inl h3
  · exact .inr ⟨b, off, hb, hA, fun j hj => (hk b (off + j) hb).trans (hc j hj)⟩
theorem Holds.below {w w' : World} {B : Nat} {v : Value} {bs : List Int} (h : Holds w B v bs) (hb : Below B w w') : Holds w' B v bs := h.keep fun b o h => hb.cell (p := ⟨b, o, none⟩) h
theorem Holds.mono {w : World} {B B' : Nat} {v : Value} {bs : List Int} (h : Holds w B v bs) (hB : B ≤ B') : Holds w B' v bs := by
  obtain ⟨A, cap, hv, h1, h2, h3⟩ := h
  refine ⟨A, cap, hv, h1, h2, h3.imp id ?_⟩
  rintro ⟨b, off, hb, r⟩
  exact ⟨b, off, by omega, r⟩
theorem Holds.alloc {w : World} {B : Nat} {v : Value} {bs : List Int} (h : Holds w B v bs) (hB : B ≤ w.heap.size) (o : Obj) : Holds (w.alloc o) B v bs :=
  h.keep fun b off hb => World.cell?_alloc_lt w o ⟨b, off, none⟩ (by show b < _; omega)

theorem Holds.of_own {w : World} {base : Nat} {v : Value} {bs : List Int} (h : w.ownsRow base 5 1 v bs.length (bs.map (Value.int .u8))) : Holds w w.heap.size v bs := by
  rcases h.2 with ⟨rfl, h0⟩ | ⟨g, cap, cur, rfl, hb, hg, h1, h2, h3, h4⟩
  · have : bs = [] := List.eq_nil_of_length_eq_zero h0
    subst this
    exact ⟨none, 0, rfl, by simp, by simp, .inl rfl⟩
  · refine ⟨_, cap, rfl, h1, h2, .inr ⟨g, 0, (Array.getElem?_eq_some_iff.1 hg).1, rfl, fun j hj => ?_⟩⟩
    have := h.cellAt j (by omega)
    rw [Nat.zero_add, this, List.getElem?_map, List.getD_eq_getElem?_getD, List.getElem?_eq_getElem hj]
    rfl

theorem run_str {w : World} {B : Nat} {v : Value} {bs : List Int} (h : Holds w B v bs) (hb : ∀ x ∈ bs, 0 ≤ x ∧ x ≤ 255) : (convert 28 9 v).run Try.prog w = .ok (.string (strOf bs)) w := by
  obtain ⟨A, cap, rfl, h1, h2, h3⟩ := h
  have key : ∀ b off, A = some ⟨b, off, none⟩ → (∀ j, j < bs.length → w.cell? ⟨b, off + j, none⟩ = some (.int .u8 (bs.getD j 0))) → (convert 28 9 (.slice A bs.length cap)).run Try.prog w = .ok (.string (strOf bs)) w := by
    rintro b off rfl hc
    have := run_convert_bytes_back (P := Try.prog) w 28 9 5 ⟨b, off, none⟩ cap (bs.map fun x => UInt8.ofNat x.toNat) Try.underlying28 Try.underlying5 Try.underlying9 (fun j hj => by
      rw [List.length_map] at hj
      have hbj := hb bs[j] (List.getElem_mem hj)
      have e : (⟨b, off, none⟩ : Addr).add j = ⟨b, off + j, none⟩ := by unfold Addr.add; split <;> simp_all
      rw [e, hc j hj, List.getElem_map, List.getD_eq_getElem?_getD, List.getElem?_eq_getElem hj]
      simp only [Option.getD_some, Option.some.injEq, Value.int.injEq, true_and]
      rw [UInt8.toNat_ofNat']
      omega)
    rw [List.length_map] at this
    exact this
  rcases h3 with rfl | ⟨b, off, _, hA, hc⟩
  · cases A with
    | none =>
      rw [run_convert_bytes_string w 28 9 5 none _ cap Try.underlying28 Try.underlying5 Try.underlying9]
      simp [Conv.bytesToString, strOf]
      rfl
    | some a =>
      have := run_convert_bytes_back (P := Try.prog) w 28 9 5 a cap [] Try.underlying28 Try.underlying5 Try.underlying9 (fun j hj => by simp at hj)
      exact this
  · exact key b off hA hc

theorem strOf_inj {cs bs : List Int} (ha : ∀ x ∈ cs, 0 ≤ x ∧ x ≤ 255) (hb : ∀ x ∈ bs, 0 ≤ x ∧ x ≤ 255) (h : strOf cs = strOf bs) : cs = bs := by
  unfold strOf at h
  have h' : (cs.map fun x => UInt8.ofNat x.toNat) = bs.map fun x => UInt8.ofNat x.toNat := by
    injection h with h; exact List.toArray_inj h
  clear h
  induction cs generalizing bs with
  | nil => cases bs with
    | nil => rfl
    | cons b bs => simp at h'
  | cons a cs ih => cases bs with
    | nil => simp at h'
    | cons b bs =>
      simp only [List.map_cons, List.cons.injEq] at h'
      have h1 := ha a (by simp); have h2 := hb b (by simp)
      have e : a = b := by
        have := congrArg UInt8.toNat h'.1
        rw [UInt8.toNat_ofNat', UInt8.toNat_ofNat'] at this
        omega
      rw [e, ih (fun x hx => ha x (by simp [hx])) (fun x hx => hb x (by simp [hx])) h'.2]

theorem str_beq (a b : ByteArray) : (a.toList == b.toList) = decide (a = b) := by
  rw [Bool.eq_iff_iff]
  simp only [beq_iff_eq, decide_eq_true_eq]
  constructor
  · intro h
    rw [ByteArray.toList_eq, ByteArray.toList_eq] at h
    exact ByteArray.ext (Array.toList_inj.1 h)
  · intro h; rw [h]

/-- varint.Take of bytes, wherever they lie. -/
theorem take_any {w : World} {B : Nat} {v : Value} {bs : List Int} (h : Holds w B v bs) (hb : ∀ x ∈ bs, 0 ≤ x ∧ x ≤ 255) : Calls Try.prog 91 #[v] w fun e w' => e = tk (vtake bs) ∧ w = w' := by
  obtain ⟨A, cap, rfl, h1, h2, h3⟩ := h
  rcases h3 with rfl | ⟨b, off, _, rfl, hc⟩
  · exact take_nil A cap w
  · exact take_some b off bs hb cap w (by omega) hc

/-- varint.Put: a slice that holds the number's bytes, in new memory. -/
theorem put_holds (x : Nat) (hx : x < 18446744073709551616) (w : World) :
    Calls Try.prog 51 #[.int .u64 x] w fun e w' => ∃ v, e = .returned v ∧ Holds w' w'.heap.size v (vput x) ∧ Below w.heap.size w w' :=
  (put_any x hx w).mono fun _ _ ⟨v, he, ho, hb⟩ => ⟨v, he, Holds.of_own ho, hb⟩

/-- varint.Put: how many bytes. -/
theorem put_len (x k : Nat) (hx : x < 18446744073709551616) (hk : (vput x).length = k) (w : World) :
    Calls Try.prog 51 #[.int .u64 x] w fun e w' => ∃ A cap, e = .returned (.slice A k cap) ∧ Below w.heap.size w w' :=
  (put_holds x hx w).mono fun _ _ ⟨v, he, ⟨A, cap, hv, _⟩, hb⟩ => ⟨A, cap, by rw [he, hv, hk], hb⟩

theorem add_plain (b off j : Nat) : (⟨b, off, none⟩ : Addr).add j = ⟨b, off + j, none⟩ := by unfold Addr.add; split <;> simp_all

/-- Bytes appended to a row of the call's own. -/
theorem run_app (w : World) (ty : TypeId) {base : Nat} {v u : Value} {xs ys : List Int} {B : Nat} (hown : w.ownsRow base 5 1 v xs.length (xs.map (Value.int .u8))) (hu : Holds w B u ys) (hb : xs.length + ys.length ≤ 1000000) (hbase : base ≤ w.heap.size) :
    ∃ v' w', (Builtin.append_ #[28, 28] ty #[v, u]).run Try.prog w = .ok v' w' ∧ w'.ownsRow base 5 1 v' (xs ++ ys).length ((xs ++ ys).map (Value.int .u8)) ∧ w.grownBy w' v.ownBlock := by
  obtain ⟨i0, hi, hz0, hz1, hz2⟩ := info_parts info5
  obtain ⟨A, cap, rfl, h1, h2, h3⟩ := hu
  cases A with
  | none =>
    have hy : ys = [] := by
      rcases h3 with h3 | ⟨b, off, _, hA, _⟩
      · exact h3
      · cases hA
    subst hy
    refine ⟨v, w, ?_, by simpa using hown, World.grownBy.refl w _⟩
    rcases hown.2 with ⟨rfl, _⟩ | ⟨g, c, cur, rfl, _, _, hnc, _⟩
    · simp [Builtin.append_, run_underlying Try.underlying28, sizeOf, typeInfo, hi, Builtin.lenOf, Builtin.firstCells]
    · simp [Builtin.append_, run_underlying Try.underlying28, sizeOf, typeInfo, hi, Builtin.lenOf, Builtin.firstCells, hnc, storeCells]
  | some ad =>
    obtain ⟨v', w', hr, ho, hg, _⟩ := run_append_own (P := Try.prog) w base 28 ty 5 i0 (.int .u8 0) 1 1 Try.underlying28 hi hz0 hz1 hz2 rfl (by omega) v xs.length (xs.map (Value.int .u8)) hown ad ys.length cap (ys.map (Value.int .u8)) (by simp)
      (fun j x hx => by
        rcases h3 with rfl | ⟨b, off, _, hA, hc⟩
        · simp at hx
        · cases hA
          have hj : j < ys.length := by have := (List.getElem?_eq_some_iff.1 hx).1; simpa using this
          rw [add_plain, hc j hj]
          rw [List.getElem?_map, List.getElem?_eq_getElem hj] at hx
          rw [List.getD_eq_getElem?_getD, List.getElem?_eq_getElem hj]
          simpa using hx)
      (fun x hx => by obtain ⟨y, _, rfl⟩ := List.mem_map.1 hx; rfl) (by unfold maxLen; omega) (by omega) hbase
    exact ⟨v', w', hr, by simpa using ho, hg⟩

theorem wpList_app (w : World) {ops : Array Oper} {rest : List Oper} {o : Oper} {a : Act} {Q : Exit → Act → World → Prop} (hgd : o.guard = none) (s x : Operand)
    (hop : o.op = Op.call { callee := Callee.builtin Builtin.append, args := #[s, x], argTypes := #[28, 28] }) (base : Nat) (v u : Value) (xs ys : List Int) (B : Nat) (hs : a.eval s = v) (hown : w.ownsRow base 5 1 v xs.length (xs.map (Value.int .u8)))
    (hx : a.eval x = u) (hu : Holds w B u ys) (hb : xs.length + ys.length ≤ 1000000) (hbase : base ≤ w.heap.size)
    (hK : ∀ v' w', w'.ownsRow base 5 1 v' (xs ++ ys).length ((xs ++ ys).map (Value.int .u8)) → w.grownBy w' v.ownBlock → wpList Try.prog ops Q rest (a.put o.dst v') w') :
    wpList Try.prog ops Q (o :: rest) a w := by
  refine wpList_plain hgd fun K hK' => ?_
  obtain ⟨v', w', hr, h1, h2⟩ := run_app w o.type hown hu hb hbase
  unfold Oper.wp execOp
  simp only [hop, resolve, invoke, builtin, Sem.run_bind, Sem.run_pure, Result.andThen_ok, List.map_toArray, List.map_cons, List.map_nil, hs, hx, hr]
  exact hK' _ _ (hK v' w' h1 h2)

/-- A slice of bytes that came in, as the frame tells it. -/
theorem holds_of_row {w : World} {A : Option Addr} {len cap : Nat} {zs : List Int} (h : (A = none ∧ len = 0 ∧ cap = 0 ∧ zs = []) ∨
    ∃ x, A = some x ∧ len ≤ cap ∧ cap ≤ maxLen ∧ zs.length = cap ∧ (∀ i, i < zs.length → w.cell? (x.add i) = some (.int .u8 (zs.getD i 0))) ∧ ∀ n ∈ zs, (Lit.int .u8 n).wf = true) :
    Holds w w.heap.size (.slice A len cap) (zs.take len) ∧ (zs.take len).length = len ∧ ∀ x ∈ zs.take len, 0 ≤ x ∧ x ≤ 255 := by
  rcases h with ⟨rfl, rfl, rfl, rfl⟩ | ⟨x, rfl, h1, h2, h3, h4, h5⟩
  · exact ⟨⟨none, 0, rfl, by simp, by simp, .inl rfl⟩, rfl, by simp⟩
  · have hl : (zs.take len).length = len := by simp; omega
    refine ⟨⟨some x, cap, by rw [hl], by omega, h2, ?_⟩, hl, fun y hy => bounds_u8 (h5 y (List.mem_of_mem_take hy))⟩
    rcases Nat.eq_zero_or_pos len with h0 | h0
    · subst h0; exact .inl (by simp)
    · obtain ⟨b, off, rfl, hc⟩ := ints_at h4 (by omega)
      refine .inr ⟨b, off, ?_, rfl, fun j hj => ?_⟩
      · exact World.block_lt_of_cell? w ⟨b, off + 0, none⟩ (hc 0 (by omega))
      · rw [hl] at hj
        rw [hc j (by omega), List.getD_eq_getElem?_getD, List.getD_eq_getElem?_getD, List.getElem?_take_of_lt hj]

/-- The first k bytes. -/
theorem Holds.take {w : World} {B : Nat} {A : Option Addr} {cap : Nat} {bs : List Int} (h : Holds w B (.slice A bs.length cap) bs) (k : Nat) (hk : k ≤ bs.length) : Holds w B (.slice A k cap) (bs.take k) := by
  obtain ⟨A', cap', hv, h1, h2, h3⟩ := h
  injection hv with e1 e2 e3
  subst e1; subst e3
  have hl : (bs.take k).length = k := by simp; omega
  refine ⟨A, cap, by rw [hl], by omega, h2, ?_⟩
  rcases h3 with rfl | ⟨b, off, hb, hA, hc⟩
  · exact .inl (by simp)
  · refine .inr ⟨b, off, hb, hA, fun j hj => ?_⟩
    rw [hl] at hj
    rw [hc j (by omega), List.getD_eq_getElem?_getD, List.getD_eq_getElem?_getD, List.getElem?_take_of_lt hj]

/-- varint.Put: its bytes, each in its cell. -/
theorem put_some (x : Nat) (bs : List Int) (hx : x < 18446744073709551616) (hb : vput x = bs) (w : World) :
    Calls Try.prog 51 #[.int .u64 x] w fun e w' => ∃ b off cap, e = .returned (.slice (some ⟨b, off, none⟩) bs.length cap) ∧ (∀ j, j < bs.length → w'.cell? ⟨b, off + j, none⟩ = some (.int .u8 (bs.getD j 0))) ∧ Below w.heap.size w w' :=
  (put_holds x hx w).mono fun _ _ ⟨v, he, ⟨A, cap, hv, _, _, h3⟩, hbl⟩ => by
    subst hb
    rcases h3 with h3 | ⟨b, off, _, hA, hc⟩
    · have := vput_len_pos x
      rw [h3] at this
      simp at this
    · exact ⟨b, off, cap, by rw [he, hv, hA], hc, hbl⟩

/-- varint.Put: its bytes, at an address that is written out. -/
theorem put_own (x : Nat) (bs : List Int) (hx : x < 18446744073709551616) (hb : vput x = bs) (w : World) :
    Calls Try.prog 51 #[.int .u64 x] w fun e w' => ∃ b off cap, e = .returned (.slice (some ⟨b, off, none⟩) bs.length cap) ∧ bs.length ≤ cap ∧ cap ≤ 9223372036854775807 ∧ Holds w' w'.heap.size (.slice (some ⟨b, off, none⟩) bs.length cap) bs ∧ Below w.heap.size w w' :=
  (put_holds x hx w).mono fun _ _ ⟨v, he, ⟨A, cap, hv, h1, h2, h3⟩, hbl⟩ => by
    subst hb
    have h2' := h2
    unfold maxLen at h2'
    rcases h3 with h3 | ⟨b, off, hlt, hA, hc⟩
    · have := vput_len_pos x
      rw [h3] at this
      simp at this
    · exact ⟨b, off, cap, by rw [he, hv, hA], h1, by omega, ⟨_, cap, rfl, h1, h2, .inr ⟨b, off, hlt, rfl, hc⟩⟩, hbl⟩

/-- What is owned stays so where all that lay stays. -/
theorem ownsRow_below {w w' : World} {base : Nat} {e : TypeId} {size : Nat} {v : Value} {n : Nat} {xs : List Value} (h : w.ownsRow base e size v n xs) (hb : Below w.heap.size w w') : w'.ownsRow base e size v n xs := by
  refine ⟨h.1, ?_⟩
  rcases h.2 with h1 | ⟨g, cap, cur, hv, hg, hh, r⟩
  · exact .inl h1
  · exact .inr ⟨g, cap, cur, hv, hg, (hb.block g (Array.getElem?_eq_some_iff.1 hh).1).trans hh, r⟩
theorem ret_true {a : Bool} (h : a = true) : Ending.returned (.bool a) = .returned (.bool true) := by rw [h]
theorem app_bounds {xs ys : List Int} (hx : ∀ x ∈ xs, 0 ≤ x ∧ x ≤ 255) (hy : ∀ x ∈ ys, 0 ≤ x ∧ x ≤ 255) : ∀ x ∈ xs ++ ys, 0 ≤ x ∧ x ≤ 255 := fun x h => (List.mem_append.1 h).elim (hx x) (hy x)
theorem take_bounds {xs : List Int} (hx : ∀ x ∈ xs, 0 ≤ x ∧ x ≤ 255) (k : Nat) : ∀ x ∈ xs.take k, 0 ≤ x ∧ x ≤ 255 := fun x h => hx x (List.mem_of_mem_take h)

end Go.Proofs.Ytmdknedngiggdaa
end
