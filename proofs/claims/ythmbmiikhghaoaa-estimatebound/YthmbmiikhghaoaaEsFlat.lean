/- The buckets of a histogram, one behind the other, each with its level; what is sure of them, and what is cut, bucket by bucket. -/
import Derived.Test.YthmbmiikhghaoaaEsMath2
namespace Go.Proofs.Lh
open Go.Proofs.Lm (Sp)

def bk : Nat → Lv → List (Nat × Sp)
  | _, [] => []
  | i, l :: ls => l.map (fun b => (i, b)) ++ bk (i + 1) ls
def sureV (p : Nat → Bool) (x : Nat × Sp) : Nat := if p x.2.1 = true then 2 ^ x.1 else 0
def cutV (p : Nat → Bool) (x : Nat × Sp) : Nat := if p x.2.1 = true then 0 else if p x.2.2 = true then 2 ^ x.1 else 0
def sumV (f : Nat × Sp → Nat) : List (Nat × Sp) → Nat
  | [] => 0
  | x :: r => f x + sumV f r
theorem sumV_app (f : Nat × Sp → Nat) : ∀ a b : List (Nat × Sp), sumV f (a ++ b) = sumV f a + sumV f b
  | [], b => by simp [sumV]
  | x :: a, b => by rw [List.cons_append, sumV, sumV, sumV_app f a b]; omega
theorem sure_map (p : Nat → Bool) (i : Nat) : ∀ l : List Sp, sumV (sureV p) (l.map fun b => (i, b)) = l.countP (sureP p) * 2 ^ i
  | [] => by simp [sumV]
  | b :: l => by
    rw [List.map_cons, sumV, sure_map p i l, List.countP_cons]
    unfold sureV sureP
    cases p b.1 <;> simp [Nat.add_mul]
    omega
theorem cut_map (p : Nat → Bool) (i : Nat) : ∀ l : List Sp, sumV (cutV p) (l.map fun b => (i, b)) = l.countP (cutP p) * 2 ^ i
  | [] => by simp [sumV]
  | b :: l => by
    rw [List.map_cons, sumV, cut_map p i l, List.countP_cons]
    unfold cutV cutP
    cases p b.1 <;> cases p b.2 <;> simp [Nat.add_mul]
    omega
theorem sure_bk (p : Nat → Bool) : ∀ (ls : Lv) (i : Nat), sumV (sureV p) (bk i ls) = sureL p i ls
  | [], _ => rfl
  | l :: ls, i => by rw [bk, sumV_app, sure_map, sure_bk p ls, sureL]
theorem cut_bk (p : Nat → Bool) : ∀ (ls : Lv) (i : Nat), sumV (cutV p) (bk i ls) = cutS p i ls
  | [], _ => rfl
  | l :: ls, i => by rw [bk, sumV_app, cut_map, cut_bk p ls, cutS]
theorem bk_app : ∀ (a b : Lv) (i : Nat), bk i (a ++ b) = bk i a ++ bk (i + a.length) b
  | [], b, i => by simp [bk]
  | l :: a, b, i => by rw [List.cons_append, bk, bk, bk_app a b (i + 1), List.append_assoc, List.length_cons, show i + 1 + a.length = i + (a.length + 1) by omega]
/-- Where the level i begins. -/
def offB (ls : Lv) (i : Nat) : Nat := (bk 0 (ls.take i)).length
theorem off_zero (ls : Lv) : offB ls 0 = 0 := by simp [offB, bk]
theorem off_succ {ls : Lv} {i : Nat} (h : i < ls.length) : offB ls (i + 1) = offB ls i + ls[i].length := by
  unfold offB
  rw [List.take_succ_eq_append_getElem h, bk_app, List.length_append]
  simp [bk]
theorem off_all (ls : Lv) : offB ls ls.length = (bk 0 ls).length := by simp [offB]
theorem bk_get {ls : Lv} {i j : Nat} (h : i < ls.length) (hj : j < ls[i].length) : (bk 0 ls)[offB ls i + j]? = some (i, ls[i][j]) := by
  have e : bk 0 ls = bk 0 (ls.take i) ++ (ls[i].map (fun b => (i, b)) ++ bk (i + 1) (ls.drop (i + 1))) := by
    have h2 := bk_app (ls.take i) (ls.drop i) 0
    rw [List.take_append_drop, List.drop_eq_getElem_cons h, bk, List.length_take, Nat.min_eq_left (by omega), Nat.zero_add] at h2
    exact h2
  rw [e, List.getElem?_append_right (by unfold offB; omega)]
  unfold offB
  rw [Nat.add_sub_cancel_left, List.getElem?_append_left (by simpa using hj)]
  simp [hj]
/-- Of which level a bucket is. -/
theorem bk_level {ls : Lv} {k : Nat} {x : Nat × Sp} (h : (bk 0 ls)[k]? = some x) : x.1 < ls.length := by
  suffices g : ∀ (ls : Lv) (i : Nat), ∀ y ∈ bk i ls, y.1 < i + ls.length by
    have := g ls 0 x (List.mem_of_getElem? h)
    omega
  intro ls
  induction ls with
  | nil => intro i y hy; simp [bk] at hy
  | cons l ls ih =>
    intro i y hy
    rw [bk] at hy
    rcases List.mem_append.1 hy with hy | hy
    · obtain ⟨b, _, rfl⟩ := List.mem_map.1 hy
      simp
    · have := ih (i + 1) y hy
      simp
      omega
/-- What is sure, and what is cut, of the first n buckets. -/
def sureTo (p : Nat → Bool) (ls : Lv) (n : Nat) : Nat := sumV (sureV p) ((bk 0 ls).take n)
def cutTo (p : Nat → Bool) (ls : Lv) (n : Nat) : Nat := sumV (cutV p) ((bk 0 ls).take n)
theorem sure_zero (p : Nat → Bool) (ls : Lv) : sureTo p ls 0 = 0 := by simp [sureTo, sumV]
theorem cut_zero (p : Nat → Bool) (ls : Lv) : cutTo p ls 0 = 0 := by simp [cutTo, sumV]
theorem sure_to (p : Nat → Bool) (ls : Lv) : sureTo p ls (bk 0 ls).length = sureL p 0 ls := by unfold sureTo; rw [List.take_length, sure_bk]
theorem cut_to (p : Nat → Bool) (ls : Lv) : cutTo p ls (bk 0 ls).length = cutS p 0 ls := by unfold cutTo; rw [List.take_length, cut_bk]
theorem sumV_take (f : Nat × Sp → Nat) {xs : List (Nat × Sp)} {k : Nat} {x : Nat × Sp} (h : xs[k]? = some x) : sumV f (xs.take (k + 1)) = sumV f (xs.take k) + f x := by
  obtain ⟨hk, e⟩ := List.getElem?_eq_some_iff.1 h
  rw [List.take_succ_eq_append_getElem hk, sumV_app, e]
  simp [sumV]
theorem sure_next {p : Nat → Bool} {ls : Lv} {k : Nat} {x : Nat × Sp} (h : (bk 0 ls)[k]? = some x) : sureTo p ls (k + 1) = sureTo p ls k + sureV p x := sumV_take _ h
theorem cut_next {p : Nat → Bool} {ls : Lv} {k : Nat} {x : Nat × Sp} (h : (bk 0 ls)[k]? = some x) : cutTo p ls (k + 1) = cutTo p ls k + cutV p x := sumV_take _ h
theorem sumV_le (f : Nat × Sp → Nat) (xs : List (Nat × Sp)) (k : Nat) : sumV f (xs.take k) ≤ sumV f xs := by
  have := sumV_app f (xs.take k) (xs.drop k)
  rw [List.take_append_drop] at this
  omega
theorem to_le (p : Nat → Bool) (ls : Lv) (k : Nat) : sureTo p ls k + cutTo p ls k ≤ tot ls := by
  have h1 := sumV_le (sureV p) (bk 0 ls) k
  have h2 := sumV_le (cutV p) (bk 0 ls) k
  rw [sure_bk] at h1
  rw [cut_bk] at h2
  have h3 := parts_le p ls 0
  rw [tot_eq] at h3
  unfold sureTo cutTo
  omega

end Go.Proofs.Lh
