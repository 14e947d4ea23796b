/- Rows of histograms and of events in memory. · The contracts of replay's small functions: refusal's closures, slices.IndexFunc and ContainsFunc as it calls them, greatestGen. · The buckets of a histogram, one behind the other, each with its level; what is sure of them, and what is cut, bucket by bucket. · The contracts of skylightref08.Within, and of estimate's within and its closure. -/
import Derived.Test.YtmdknedngiggdaaJ10
import Derived.Test.YtmdknedngiggdaaJ08
import Derived.BigQuiet
import Derived.Test.YtmdknedngiggdaaJ09
import Derived.Shelf.Abstract
import Derived.Shelf.RegionOpen
import Derived.WalkKit
import Derived.OwnWalkIn
import Derived.TacticsInMore
import Derived.LoopNIn
import Derived.LoopIn
import Derived.Deep.OwnRows
import Derived.Stop.RegionWithIn
section
/- Rows of histograms and of events in memory. -/
namespace Go.Proofs.Rw
open Go Go.RowKit Go.Proofs.Lh

/-- A histogram, as it lies in a row: its numbers, its levels' slice, and what that holds. -/
structure Hx where
  k : Int
  g : Int
  A : Option Addr
  c : Nat
  ls : List (List Sp)
def Hx.m (x : Hx) : Hm := (x.k, x.g, x.ls)
def hxL : Lay Hx := ⟨3, fun x => [.int .i64 x.k, .int .i64 x.g, .slice x.A x.ls.length x.c], fun _ => rfl⟩
theorem hx_one (ys : List Hx) : ∀ y ∈ ys, ∀ u ∈ hxL.enc y, u.oneCell' = true := by
  intro y _ u hu
  simp only [hxL, List.mem_cons, List.not_mem_nil, or_false] at hu
  rcases hu with rfl | rfl | rfl <;> rfl
/-- The slice value v holds the histograms xs, in blocks below B. -/
def Hs (w : World) (B : Nat) (v : Value) (xs : List Hx) : Prop := Lies hxL w B v xs ∧ ∀ x ∈ xs, Levs w B (.slice x.A x.ls.length x.c) x.ls

section
variable {w w' : World} {B B' : Nat} {v : Value} {xs : List Hx}
theorem Hs.keep (h : Hs w B v xs) (hk : ∀ b, b < B → w'.heap[b]? = w.heap[b]?) : Hs w' B v xs := ⟨h.1.keep hk, fun x hx => (h.2 x hx).keep hk⟩
theorem Hs.below (h : Hs w B v xs) (hb : Below B w w') : Hs w' B v xs := h.keep hb.block
theorem Hs.mono (h : Hs w B v xs) (hB : B ≤ B') : Hs w B' v xs := ⟨h.1.mono hB, fun x hx => (h.2 x hx).mono hB⟩
theorem Hs.grow (h : Hs w w.heap.size v xs) (hb : Below w.heap.size w w') : Hs w' w'.heap.size v xs := (h.below hb).mono hb.size
theorem Hs.form (h : Hs w B v xs) : ∃ A cap, v = .slice A xs.length cap ∧ xs.length ≤ cap ∧ cap ≤ maxLen ∧ Hs w B (.slice A xs.length cap) xs := by
  obtain ⟨A, cap, hv, h4, h5, h6⟩ := h.1.form
  exact ⟨A, cap, hv, h4, h5, h6, h.2⟩
theorem Hs.at {A : Option Addr} {len cap : Nat} (h : Hs w B (.slice A len cap) xs) (h0 : 0 < xs.length) : ∃ b off, A = some ⟨b, off, none⟩ ∧ b < B ∧ len = xs.length ∧
    ∀ i (hi : i < xs.length), w.cell? ⟨b, off + i * 3, none⟩ = some (.int .i64 xs[i].k) ∧ w.cell? ⟨b, off + i * 3 + 1, none⟩ = some (.int .i64 xs[i].g) ∧ w.cell? ⟨b, off + i * 3 + 2, none⟩ = some (.slice xs[i].A xs[i].ls.length xs[i].c) ∧ Levs w B (.slice xs[i].A xs[i].ls.length xs[i].c) xs[i].ls := by
  obtain ⟨b, off, hA, hb, hl, hc⟩ := h.1.addr h0
  refine ⟨b, off, hA, hb, hl, fun i hi => ⟨?_, ?_, ?_, h.2 _ (List.getElem_mem hi)⟩⟩
  · exact hc i hi 0 _ rfl
  · exact hc i hi 1 _ rfl
  · exact hc i hi 2 _ rfl
theorem Hs.nil : Hs w B (.slice none 0 0) [] := ⟨Lies.nil none 0 (by simp), by simp⟩
end

/-- Events. -/
def evL : Lay Ev := ⟨3, fun x => [.int .u64 x.1, .int .u64 x.2.1, .int .u64 x.2.2], fun _ => rfl⟩
theorem ev_one (ys : List Ev) : ∀ y ∈ ys, ∀ u ∈ evL.enc y, u.oneCell' = true := by
  intro y _ u hu
  simp only [evL, List.mem_cons, List.not_mem_nil, or_false] at hu
  rcases hu with rfl | rfl | rfl <;> rfl
theorem ev_at {w : World} {B : Nat} {A : Option Addr} {len cap : Nat} {xs : List Ev} (h : Lies evL w B (.slice A len cap) xs) (h0 : 0 < xs.length) : ∃ b off, A = some ⟨b, off, none⟩ ∧ b < B ∧ len = xs.length ∧
    ∀ i (hi : i < xs.length), w.cell? ⟨b, off + i * 3, none⟩ = some (.int .u64 xs[i].1) ∧ w.cell? ⟨b, off + i * 3 + 1, none⟩ = some (.int .u64 xs[i].2.1) ∧ w.cell? ⟨b, off + i * 3 + 2, none⟩ = some (.int .u64 xs[i].2.2) := by
  obtain ⟨b, off, hA, hb, hl, hc⟩ := h.addr h0
  refine ⟨b, off, hA, hb, hl, fun i hi => ⟨?_, ?_, ?_⟩⟩
  · exact hc i hi 0 _ rfl
  · exact hc i hi 1 _ rfl
  · exact hc i hi 2 _ rfl
/-- Events whose numbers fit. -/
def Fits3 (evs : List Ev) : Prop := ∀ e ∈ evs, e.1 < 18446744073709551616 ∧ e.2.1 < 18446744073709551616 ∧ e.2.2 < 18446744073709551616

/-- A slice of elements of three numbers that came in. -/
theorem ev_of_row {w : World} {A : Option Addr} {len cap : Nat} {z : Nat → Nat → Int} (h : Op.FlatRow [.u64, .u64, .u64] w A len cap z) :
    ∃ xs : List Ev, xs.length = len ∧ Lies evL w w.heap.size (.slice A len cap) xs ∧ Fits3 xs := by
  obtain ⟨h1, h2, h3⟩ := h
  have hl : ((List.range len).map fun i => ((z i 0).toNat, (z i 1).toNat, (z i 2).toNat)).length = len := by simp
  rcases h3 with rfl | ⟨b, off, rfl, hb, hc⟩
  · exact ⟨[], rfl, Lies.nil A cap h2, by intro e he; cases he⟩
  have key : ∀ i, i < len → 0 ≤ z i 0 ∧ z i 0 < 18446744073709551616 ∧ 0 ≤ z i 1 ∧ z i 1 < 18446744073709551616 ∧ 0 ≤ z i 2 ∧ z i 2 < 18446744073709551616 := by
    intro i hi
    obtain ⟨a0, a1⟩ := bounds_u64 (hc i hi 0 .u64 rfl).2
    obtain ⟨b0, b1⟩ := bounds_u64 (hc i hi 1 .u64 rfl).2
    obtain ⟨c0, c1⟩ := bounds_u64 (hc i hi 2 .u64 rfl).2
    omega
  refine ⟨(List.range len).map fun i => ((z i 0).toNat, (z i 1).toNat, (z i 2).toNat), hl, ⟨_, cap, by rw [hl], by rw [hl]; exact h1, h2, .inr ⟨b, off, hb, rfl, fun j u hu => ?_⟩⟩, fun x hx => ?_⟩
  · have hj : j < len * 3 := by
      have := (List.getElem?_eq_some_iff.1 hu).1
      rw [cells_len, hl] at this
      exact this
    obtain ⟨i, k, hk, rfl⟩ : ∃ i k, k < 3 ∧ j = i * 3 + k := ⟨j / 3, j % 3, by omega, by omega⟩
    have e := cells_at evL ((List.range len).map fun i => ((z i 0).toNat, (z i 1).toNat, (z i 2).toNat)) i k (by rw [hl]; omega) hk
    rw [show evL.size = 3 from rfl] at e
    rw [e] at hu
    simp only [List.getElem_map, List.getElem_range, evL] at hu
    have hk4 := key i (by omega)
    rcases k with _ | _ | _ | k
    · have h4 := (hc i (by omega) 0 .u64 rfl).1
      simp only [List.length_cons, List.length_nil] at h4
      rw [h4, ← hu]
      simp
      omega
    · have h4 := (hc i (by omega) 1 .u64 rfl).1
      simp only [List.length_cons, List.length_nil] at h4
      rw [h4, ← hu]
      simp
      omega
    · have h4 := (hc i (by omega) 2 .u64 rfl).1
      simp only [List.length_cons, List.length_nil] at h4
      rw [h4, ← hu]
      simp
      omega
    · omega
  · obtain ⟨i, hi, rfl⟩ := List.mem_map.1 hx
    have := key i (List.mem_range.1 hi)
    refine ⟨?_, ?_, ?_⟩ <;> simp only <;> omega

end Go.Proofs.Rw
namespace Go.Proofs.Ytmdknedngiggdaa
open Go.RowKit Go.Shelf Go.Proofs.Rw Go.Proofs.Lh

theorem info_hist : (Try.prog.info? 30).map (fun i => (i.zero, i.size, i.bytes)) = some (some (.agg #[.int .i64 0, .int .i64 0, .slice none 0 0]), 3, 40) := by kernel_rfl
theorem info_rhist : (Try.prog.info? 27).map (fun i => (i.zero, i.size, i.bytes)) = some (some (.agg #[.int .i64 0, .int .i64 0, .slice none 0 0]), 3, 40) := by kernel_rfl
theorem info_lump : (Try.prog.info? 130).map (fun i => (i.zero, i.size, i.bytes)) = some (some (.agg #[.int .u64 0, .int .u64 0]), 2, 16) := by kernel_rfl
/-- A row of lumps of the call's own. -/
abbrev OwnT (T : TypeId) (w : World) (base : Nat) (v : Value) (xs : List Sp) : Prop := w.ownsRow base T 2 v xs.length (spL.cells xs)
abbrev OwnH (T : TypeId) (w : World) (base : Nat) (v : Value) (xs : List Hx) : Prop := w.ownsRow base T 3 v xs.length (hxL.cells xs)
/-- A lump in a literal of one: what append is handed. -/
theorem lit_lump (T : TypeId) (W : World) (n : Nat) (hn : W.heap.size = n) (a b : Nat) : Lies spL (W.alloc (.cells #[.int .u64 a, .int .u64 b] T)) (n + 1) (.slice (some ⟨n, 0, none⟩) 1 1) [(a, b)] := by
  subst hn
  refine ⟨_, 1, rfl, by simp, by unfold maxLen; omega, .inr ⟨W.heap.size, 0, by omega, rfl, fun j u hu => ?_⟩⟩
  rw [Nat.zero_add, cell_of_row _ _ _ #[.int .u64 a, .int .u64 b] T (0, 0) (heap_alloc_new W _)]
  rw [cells_one] at hu
  simpa [spL] using hu
theorem lit_hist (T : TypeId) (W : World) (n : Nat) (hn : W.heap.size = n) (x : Hx) : Lies hxL (W.alloc (.cells #[.int .i64 x.k, .int .i64 x.g, .slice x.A x.ls.length x.c] T)) (n + 1) (.slice (some ⟨n, 0, none⟩) 1 1) [x] := by
  subst hn
  refine ⟨_, 1, rfl, by simp, by unfold maxLen; omega, .inr ⟨W.heap.size, 0, by omega, rfl, fun j u hu => ?_⟩⟩
  rw [Nat.zero_add, cell_of_row _ _ _ #[.int .i64 x.k, .int .i64 x.g, .slice x.A x.ls.length x.c] T (0, 0) (heap_alloc_new W _)]
  rw [cells_one] at hu
  simpa [hxL] using hu

end Go.Proofs.Ytmdknedngiggdaa
end
section
/- The contracts of replay's small functions: refusal's closures, slices.IndexFunc and ContainsFunc as it calls them, greatestGen. -/
namespace Go.Proofs.Ytmdknedngiggdaa
open Go.RowKit Go.Shelf Go.Proofs.Rw Go.Proofs.Lh

/-- A predicate on events, as a function value. -/
def EvFn (g : Nat) (p : Ev → Bool) : Prop := ∀ (x : Ev) (w : World), x.1 < 18446744073709551616 → x.2.2 < 18446744073709551616 → Calls Try.prog g #[.agg #[.int .u64 (x.1 : Int), .int .u64 (x.2.1 : Int), .int .u64 (x.2.2 : Int)]] w fun e w' => e = .returned (.bool (p x)) ∧ Below w.heap.size w w'

end Go.Proofs.Ytmdknedngiggdaa
end
section
/- The buckets of a histogram, one behind the other, each with its level; what is sure of them, and what is cut, bucket by bucket. -/
namespace Go.Proofs.Lh
open Go.Proofs.Lm (Sp)

def bk : Nat → Lv → List (Nat × Sp)
  | _, [] => []
  | i, l :: ls => l.map (fun b => (i, b)) ++ bk (i + 1) ls
def sureV (p : Nat → Bool) (x : Nat × Sp) : Nat := if p x.2.1 = true then 2 ^ x.1 else 0
def cutV (p : Nat → Bool) (x : Nat × Sp) : Nat := if p x.2.1 = true then 0 else if p x.2.2 = true then 2 ^ x.1 else 0
def sumV (f : Nat × Sp → Nat) : List (Nat × Sp) → Nat
  | [] => 0
  | x :: r => f x + sumV f r
theorem sumV_app (f : Nat × Sp → Nat) : ∀ a b : List (Nat × Sp), sumV f (a ++ b) = sumV f a + sumV f b
  | [], b => by simp [sumV]
  | x :: a, b => by rw [List.cons_append, sumV, sumV, sumV_app f a b]; omega
theorem sure_map (p : Nat → Bool) (i : Nat) : ∀ l : List Sp, sumV (sureV p) (l.map fun b => (i, b)) = l.countP (sureP p) * 2 ^ i
  | [] => by simp [sumV]
  | b :: l => by
    rw [List.map_cons, sumV, sure_map p i l, List.countP_cons]
    unfold sureV sureP
    cases p b.1 <;> simp [Nat.add_mul]
    omega
theorem cut_map (p : Nat → Bool) (i : Nat) : ∀ l : List Sp, sumV (cutV p) (l.map fun b => (i, b)) = l.countP (cutP p) * 2 ^ i
  | [] => by simp [sumV]
  | b :: l => by
    rw [List.map_cons, sumV, cut_map p i l, List.countP_cons]
    unfold cutV cutP
    cases p b.1 <;> cases p b.2 <;> simp [Nat.add_mul]
    omega
theorem sure_bk (p : Nat → Bool) : ∀ (ls : Lv) (i : Nat), sumV (sureV p) (bk i ls) = sureL p i ls
  | [], _ => rfl
  | l :: ls, i => by rw [bk, sumV_app, sure_map, sure_bk p ls, sureL]
theorem cut_bk (p : Nat → Bool) : ∀ (ls : Lv) (i : Nat), sumV (cutV p) (bk i ls) = cutS p i ls
  | [], _ => rfl
  | l :: ls, i => by rw [bk, sumV_app, cut_map, cut_bk p ls, cutS]
theorem bk_app : ∀ (a b : Lv) (i : Nat), bk i (a ++ b) = bk i a ++ bk (i + a.length) b
  | [], b, i => by simp [bk]
  | l :: a, b, i => by rw [List.cons_append, bk, bk, bk_app a b (i + 1), List.append_assoc, List.length_cons, show i + 1 + a.length = i + (a.length + 1) by omega]
/-- Where the level i begins. -/
def offB (ls : Lv) (i : Nat) : Nat := (bk 0 (ls.take i)).length
theorem off_zero (ls : Lv) : offB ls 0 = 0 := by simp [offB, bk]
theorem off_succ {ls : Lv} {i : Nat} (h : i < ls.length) : offB ls (i + 1) = offB ls i + ls[i].length := by
  unfold offB
  rw [List.take_succ_eq_append_getElem h, bk_app, List.length_append]
  simp [bk]
theorem off_all (ls : Lv) : offB ls ls.length = (bk 0 ls).length := by simp [offB]
theorem bk_get {ls : Lv} {i j : Nat} (h : i < ls.length) (hj : j < ls[i].length) : (bk 0 ls)[offB ls i + j]? = some (i, ls[i][j]) := by
  have e : bk 0 ls = bk 0 (ls.take i) ++ (ls[i].map (fun b => (i, b)) ++ bk (i + 1) (ls.drop (i + 1))) := by
    have h2 := bk_app (ls.take i) (ls.drop i) 0
    rw [List.take_append_drop, List.drop_eq_getElem_cons h, bk, List.length_take, Nat.min_eq_left (by omega), Nat.zero_add] at h2
    exact h2
  rw [e, List.getElem?_append_right (by unfold offB; omega)]
  unfold offB
  rw [Nat.add_sub_cancel_left, List.getElem?_append_left (by simpa using hj)]
  simp [hj]
/-- Of which level a bucket is. -/
theorem bk_level {ls : Lv} {k : Nat} {x : Nat × Sp} (h : (bk 0 ls)[k]? = some x) : x.1 < ls.length := by
  suffices g : ∀ (ls : Lv) (i : Nat), ∀ y ∈ bk i ls, y.1 < i + ls.length by
    have := g ls 0 x (List.mem_of_getElem? h)
    omega
  intro ls
  induction ls with
  | nil => intro i y hy; simp [bk] at hy
  | cons l ls ih =>
    intro i y hy
    rw [bk] at hy
    rcases List.mem_append.1 hy with hy | hy
    · obtain ⟨b, _, rfl⟩ := List.mem_map.1 hy
      simp
    · have := ih (i + 1) y hy
      simp
      omega
/-- What is sure, and what is cut, of the first n buckets. -/
def sureTo (p : Nat → Bool) (ls : Lv) (n : Nat) : Nat := sumV (sureV p) ((bk 0 ls).take n)
def cutTo (p : Nat → Bool) (ls : Lv) (n : Nat) : Nat := sumV (cutV p) ((bk 0 ls).take n)
theorem sure_zero (p : Nat → Bool) (ls : Lv) : sureTo p ls 0 = 0 := by simp [sureTo, sumV]
theorem cut_zero (p : Nat → Bool) (ls : Lv) : cutTo p ls 0 = 0 := by simp [cutTo, sumV]
theorem sure_to (p : Nat → Bool) (ls : Lv) : sureTo p ls (bk 0 ls).length = sureL p 0 ls := by unfold sureTo; rw [List.take_length, sure_bk]
theorem cut_to (p : Nat → Bool) (ls : Lv) : cutTo p ls (bk 0 ls).length = cutS p 0 ls := by unfold cutTo; rw [List.take_length, cut_bk]
theorem sumV_take (f : Nat × Sp → Nat) {xs : List (Nat × Sp)} {k : Nat} {x : Nat × Sp} (h : xs[k]? = some x) : sumV f (xs.take (k + 1)) = sumV f (xs.take k) + f x := by
  obtain ⟨hk, e⟩ := List.getElem?_eq_some_iff.1 h
  rw [List.take_succ_eq_append_getElem hk, sumV_app, e]
  simp [sumV]
theorem sure_next {p : Nat → Bool} {ls : Lv} {k : Nat} {x : Nat × Sp} (h : (bk 0 ls)[k]? = some x) : sureTo p ls (k + 1) = sureTo p ls k + sureV p x := sumV_take _ h
theorem cut_next {p : Nat → Bool} {ls : Lv} {k : Nat} {x : Nat × Sp} (h : (bk 0 ls)[k]? = some x) : cutTo p ls (k + 1) = cutTo p ls k + cutV p x := sumV_take _ h
theorem sumV_le (f : Nat × Sp → Nat) (xs : List (Nat × Sp)) (k : Nat) : sumV f (xs.take k) ≤ sumV f xs := by
  have := sumV_app f (xs.take k) (xs.drop k)
  rw [List.take_append_drop] at this
  omega
theorem to_le (p : Nat → Bool) (ls : Lv) (k : Nat) : sureTo p ls k + cutTo p ls k ≤ tot ls := by
  have h1 := sumV_le (sureV p) (bk 0 ls) k
  have h2 := sumV_le (cutV p) (bk 0 ls) k
  rw [sure_bk] at h1
  rw [cut_bk] at h2
  have h3 := parts_le p ls 0
  rw [tot_eq] at h3
  unfold sureTo cutTo
  omega

end Go.Proofs.Lh
end
section
/- The contracts of skylightref08.Within, and of estimate's within and its closure. -/
namespace Go.Proofs.Ytmdknedngiggdaa
open Go.RowKit Go.Shelf Go.Proofs.Rw Go.Proofs.Lh Go.Proofs.Rn

attribute [local go_sem] Oper.semAt_some

end Go.Proofs.Ytmdknedngiggdaa
end
