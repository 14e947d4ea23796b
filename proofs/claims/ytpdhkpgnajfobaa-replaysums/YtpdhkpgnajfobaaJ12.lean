/- Rows of histograms and of events in memory. · slices.SortFunc, as replay calls it, on a row of the call's own: it holds a permutation of what it held, and rises by the ticks. · The contracts of replay's small functions: refusal's closures, slices.IndexFunc and ContainsFunc as it calls them, greatestGen. · The buckets of a histogram, one behind the other, each with its level; what is sure of them, and what is cut, bucket by bucket. -/
import Derived.Test.YtpdhkpgnajfobaaJ11
import Derived.Test.YtpdhkpgnajfobaaJ09
import Derived.Shelf.SlSortCmp.WholeK
import Derived.BigQuiet
section
/- Rows of histograms and of events in memory. -/
namespace Go.Proofs.Rw
open Go Go.RowKit Go.Proofs.Lh

/-- A histogram, as it lies in a row: its numbers, its levels' slice, and what that holds. -/
structure Hx where
  k : Int
  g : Int
  A : Option Addr
  c : Nat
  ls : List (List Sp)
def Hx.m (x : Hx) : Hm := (x.k, x.g, x.ls)
def hxL : Lay Hx := ⟨3, fun x => [.int .i64 x.k, .int .i64 x.g, .slice x.A x.ls.length x.c], fun _ => rfl⟩
theorem hx_one (ys : List Hx) : ∀ y ∈ ys, ∀ u ∈ hxL.enc y, u.oneCell' = true := by
  intro y _ u hu
  simp only [hxL, List.mem_cons, List.not_mem_nil, or_false] at hu
  rcases hu with rfl | rfl | rfl <;> rfl
/-- The slice value v holds the histograms xs, in blocks below B. -/
def Hs (w : World) (B : Nat) (v : Value) (xs : List Hx) : Prop := Lies hxL w B v xs ∧ ∀ x ∈ xs, Levs w B (.slice x.A x.ls.length x.c) x.ls

section
variable {w w' : World} {B B' : Nat} {v : Value} {xs : List Hx}
theorem Hs.keep (h : Hs w B v xs) (hk : ∀ b, b < B → w'.heap[b]? = w.heap[b]?) : Hs w' B v xs := ⟨h.1.keep hk, fun x hx => (h.2 x hx).keep hk⟩
theorem Hs.below (h : Hs w B v xs) (hb : Below B w w') : Hs w' B v xs := h.keep hb.block
theorem Hs.mono (h : Hs w B v xs) (hB : B ≤ B') : Hs w B' v xs := ⟨h.1.mono hB, fun x hx => (h.2 x hx).mono hB⟩
theorem Hs.grow (h : Hs w w.heap.size v xs) (hb : Below w.heap.size w w') : Hs w' w'.heap.size v xs := (h.below hb).mono hb.size
theorem Hs.form (h : Hs w B v xs) : ∃ A cap, v = .slice A xs.length cap ∧ xs.length ≤ cap ∧ cap ≤ maxLen ∧ Hs w B (.slice A xs.length cap) xs := by
  obtain ⟨A, cap, hv, h4, h5, h6⟩ := h.1.form
  exact ⟨A, cap, hv, h4, h5, h6, h.2⟩
theorem Hs.at {A : Option Addr} {len cap : Nat} (h : Hs w B (.slice A len cap) xs) (h0 : 0 < xs.length) : ∃ b off, A = some ⟨b, off, none⟩ ∧ b < B ∧ len = xs.length ∧
    ∀ i (hi : i < xs.length), w.cell? ⟨b, off + i * 3, none⟩ = some (.int .i64 xs[i].k) ∧ w.cell? ⟨b, off + i * 3 + 1, none⟩ = some (.int .i64 xs[i].g) ∧ w.cell? ⟨b, off + i * 3 + 2, none⟩ = some (.slice xs[i].A xs[i].ls.length xs[i].c) ∧ Levs w B (.slice xs[i].A xs[i].ls.length xs[i].c) xs[i].ls := by
  obtain ⟨b, off, hA, hb, hl, hc⟩ := h.1.addr h0
  refine ⟨b, off, hA, hb, hl, fun i hi => ⟨?_, ?_, ?_, h.2 _ (List.getElem_mem hi)⟩⟩
  · exact hc i hi 0 _ rfl
  · exact hc i hi 1 _ rfl
  · exact hc i hi 2 _ rfl
theorem Hs.nil : Hs w B (.slice none 0 0) [] := ⟨Lies.nil none 0 (by simp), by simp⟩
end

/-- Events. -/
def evL : Lay Ev := ⟨3, fun x => [.int .u64 x.1, .int .u64 x.2.1, .int .u64 x.2.2], fun _ => rfl⟩
theorem ev_one (ys : List Ev) : ∀ y ∈ ys, ∀ u ∈ evL.enc y, u.oneCell' = true := by
  intro y _ u hu
  simp only [evL, List.mem_cons, List.not_mem_nil, or_false] at hu
  rcases hu with rfl | rfl | rfl <;> rfl
theorem ev_at {w : World} {B : Nat} {A : Option Addr} {len cap : Nat} {xs : List Ev} (h : Lies evL w B (.slice A len cap) xs) (h0 : 0 < xs.length) : ∃ b off, A = some ⟨b, off, none⟩ ∧ b < B ∧ len = xs.length ∧
    ∀ i (hi : i < xs.length), w.cell? ⟨b, off + i * 3, none⟩ = some (.int .u64 xs[i].1) ∧ w.cell? ⟨b, off + i * 3 + 1, none⟩ = some (.int .u64 xs[i].2.1) ∧ w.cell? ⟨b, off + i * 3 + 2, none⟩ = some (.int .u64 xs[i].2.2) := by
  obtain ⟨b, off, hA, hb, hl, hc⟩ := h.addr h0
  refine ⟨b, off, hA, hb, hl, fun i hi => ⟨?_, ?_, ?_⟩⟩
  · exact hc i hi 0 _ rfl
  · exact hc i hi 1 _ rfl
  · exact hc i hi 2 _ rfl
/-- Events whose numbers fit. -/
def Fits3 (evs : List Ev) : Prop := ∀ e ∈ evs, e.1 < 18446744073709551616 ∧ e.2.1 < 18446744073709551616 ∧ e.2.2 < 18446744073709551616

/-- A slice of elements of three numbers that came in. -/
theorem ev_of_row {w : World} {A : Option Addr} {len cap : Nat} {z : Nat → Nat → Int} (h : Op.FlatRow [.u64, .u64, .u64] w A len cap z) :
    ∃ xs : List Ev, xs.length = len ∧ Lies evL w w.heap.size (.slice A len cap) xs ∧ Fits3 xs := by
  obtain ⟨h1, h2, h3⟩ := h
  have hl : ((List.range len).map fun i => ((z i 0).toNat, (z i 1).toNat, (z i 2).toNat)).length = len := by simp
  rcases h3 with rfl | ⟨b, off, rfl, hb, hc⟩
  · exact ⟨[], rfl, Lies.nil A cap h2, by intro e he; cases he⟩
  have key : ∀ i, i < len → 0 ≤ z i 0 ∧ z i 0 < 18446744073709551616 ∧ 0 ≤ z i 1 ∧ z i 1 < 18446744073709551616 ∧ 0 ≤ z i 2 ∧ z i 2 < 18446744073709551616 := by
    intro i hi
    obtain ⟨a0, a1⟩ := bounds_u64 (hc i hi 0 .u64 rfl).2
    obtain ⟨b0, b1⟩ := bounds_u64 (hc i hi 1 .u64 rfl).2
    obtain ⟨c0, c1⟩ := bounds_u64 (hc i hi 2 .u64 rfl).2
    omega
  refine ⟨(List.range len).map fun i => ((z i 0).toNat, (z i 1).toNat, (z i 2).toNat), hl, ⟨_, cap, by rw [hl], by rw [hl]; exact h1, h2, .inr ⟨b, off, hb, rfl, fun j u hu => ?_⟩⟩, fun x hx => ?_⟩
  · have hj : j < len * 3 := by
      have := (List.getElem?_eq_some_iff.1 hu).1
      rw [cells_len, hl] at this
      exact this
    obtain ⟨i, k, hk, rfl⟩ : ∃ i k, k < 3 ∧ j = i * 3 + k := ⟨j / 3, j % 3, by omega, by omega⟩
    have e := cells_at evL ((List.range len).map fun i => ((z i 0).toNat, (z i 1).toNat, (z i 2).toNat)) i k (by rw [hl]; omega) hk
    rw [show evL.size = 3 from rfl] at e
    rw [e] at hu
    simp only [List.getElem_map, List.getElem_range, evL] at hu
    have hk4 := key i (by omega)
    rcases k with _ | _ | _ | k
    · have h4 := (hc i (by omega) 0 .u64 rfl).1
      simp only [List.length_cons, List.length_nil] at h4
      rw [h4, ← hu]
      simp
      omega
    · have h4 := (hc i (by omega) 1 .u64 rfl).1
      simp only [List.length_cons, List.length_nil] at h4
      rw [h4, ← hu]
      simp
      omega
    · have h4 := (hc i (by omega) 2 .u64 rfl).1
      simp only [List.length_cons, List.length_nil] at h4
      rw [h4, ← hu]
      simp
      omega
    · omega
  · obtain ⟨i, hi, rfl⟩ := List.mem_map.1 hx
    have := key i (List.mem_range.1 hi)
    refine ⟨?_, ?_, ?_⟩ <;> simp only <;> omega

end Go.Proofs.Rw
namespace Go.Proofs.Ytpdhkpgnajfobaa
open Go.RowKit Go.Shelf Go.Proofs.Rw Go.Proofs.Lh

theorem info_hist : (Try.prog.info? 32).map (fun i => (i.zero, i.size, i.bytes)) = some (some (.agg #[.int .i64 0, .int .i64 0, .slice none 0 0]), 3, 40) := by kernel_rfl
theorem info_rhist : (Try.prog.info? 29).map (fun i => (i.zero, i.size, i.bytes)) = some (some (.agg #[.int .i64 0, .int .i64 0, .slice none 0 0]), 3, 40) := by kernel_rfl
theorem info_lot : (Try.prog.info? 140).map (fun i => (i.zero, i.size, i.bytes)) = some (some (.agg #[.int .u64 0, .int .u64 0]), 2, 16) := by kernel_rfl
theorem info_lump : (Try.prog.info? 114).map (fun i => (i.zero, i.size, i.bytes)) = some (some (.agg #[.int .u64 0, .int .u64 0]), 2, 16) := by kernel_rfl
/-- A row of lumps of the call's own. -/
abbrev OwnT (T : TypeId) (w : World) (base : Nat) (v : Value) (xs : List Sp) : Prop := w.ownsRow base T 2 v xs.length (spL.cells xs)
abbrev OwnH (T : TypeId) (w : World) (base : Nat) (v : Value) (xs : List Hx) : Prop := w.ownsRow base T 3 v xs.length (hxL.cells xs)
/-- A lump in a literal of one: what append is handed. -/
theorem lit_lump (T : TypeId) (W : World) (n : Nat) (hn : W.heap.size = n) (a b : Nat) : Lies spL (W.alloc (.cells #[.int .u64 a, .int .u64 b] T)) (n + 1) (.slice (some ⟨n, 0, none⟩) 1 1) [(a, b)] := by
  subst hn
  refine ⟨_, 1, rfl, by simp, by unfold maxLen; omega, .inr ⟨W.heap.size, 0, by omega, rfl, fun j u hu => ?_⟩⟩
  rw [Nat.zero_add, cell_of_row _ _ _ #[.int .u64 a, .int .u64 b] T (0, 0) (heap_alloc_new W _)]
  rw [cells_one] at hu
  simpa [spL] using hu
theorem lit_hist (T : TypeId) (W : World) (n : Nat) (hn : W.heap.size = n) (x : Hx) : Lies hxL (W.alloc (.cells #[.int .i64 x.k, .int .i64 x.g, .slice x.A x.ls.length x.c] T)) (n + 1) (.slice (some ⟨n, 0, none⟩) 1 1) [x] := by
  subst hn
  refine ⟨_, 1, rfl, by simp, by unfold maxLen; omega, .inr ⟨W.heap.size, 0, by omega, rfl, fun j u hu => ?_⟩⟩
  rw [Nat.zero_add, cell_of_row _ _ _ #[.int .i64 x.k, .int .i64 x.g, .slice x.A x.ls.length x.c] T (0, 0) (heap_alloc_new W _)]
  rw [cells_one] at hu
  simpa [hxL] using hu

end Go.Proofs.Ytpdhkpgnajfobaa
end
section
/- slices.SortFunc, as replay calls it, on a row of the call's own: it holds a permutation of what it held, and rises by the ticks. -/
namespace Go.Proofs.Ytpdhkpgnajfobaa
open Go.RowKit Go.Shelf Go.Proofs.Rw Go.Proofs.Lh

/-! ### A row of the call's own, in the sort's words -/

theorem flat_cells {α : Type} [Inhabited α] (L : Lay α) (d : Array α) : (Sort.flatK L.enc L.size d).toList = L.cells d.toList := by
  apply List.ext_getElem?
  intro t
  by_cases ht : t < d.size * L.size
  · have h0 : 0 < L.size := by
      rcases Nat.eq_zero_or_pos L.size with h | h
      · rw [h] at ht; simp at ht
      · exact h
    have hq : t / L.size < d.size := Nat.div_lt_of_lt_mul (by rw [Nat.mul_comm]; exact ht)
    have hr : t % L.size < L.size := Nat.mod_lt _ h0
    have e := cells_at L d.toList (t / L.size) (t % L.size) (by simpa using hq) hr
    have e2 : t / L.size * L.size + t % L.size = t := Nat.div_add_mod' t L.size
    rw [e2] at e
    rw [e]
    have hk : t % L.size < (L.enc (d.toList[t / L.size]'(by simpa using hq))).length := by rw [L.len]; exact hr
    rw [List.getElem?_eq_getElem hk]
    have hs : t < (Sort.flatK L.enc L.size d).toList.length := by simpa using ht
    rw [List.getElem?_eq_getElem hs]
    congr 1
    have g := Sort.get_flatK L.enc L.size d t ht
    rw [getElem!_pos (Sort.flatK L.enc L.size d) t (by simpa using ht)] at g
    rw [Array.getElem_toList, g, getElem!_pos d (t / L.size) hq]
    have hk' : t % L.size < (L.enc d[t / L.size]).length := by rw [L.len]; exact hr
    rw [getElem!_pos (L.enc d[t / L.size]) (t % L.size) hk']
    simp
  · rw [List.getElem?_eq_none (by simp; omega), List.getElem?_eq_none (by rw [cells_len]; simp; omega)]

theorem holds_own {α : Type} [Inhabited α] {L : Lay α} {w : World} {base g cap : Nat} {T : TypeId} {xs : List α} (h : w.ownsRow base T L.size (.slice (some ⟨g, 0, none⟩) xs.length cap) xs.length (L.cells xs)) : Sort.HoldsK L.enc L.size w g 0 xs.toArray := by
  intro j hj
  have hj' : j < xs.length * L.size := by simpa using hj
  rw [Nat.zero_add]
  refine ⟨?_, h.frozenAt j⟩
  rw [h.cellAt j hj', ← List.getElem?_toArray]
  have e := flat_cells L xs.toArray
  rw [List.toList_toArray] at e
  rw [← e, Array.toArray_toList, getElem!_pos _ j hj]
  simp

theorem heap_put {w : World} {g n : Nat} {os : Array Obj} {cur : Array Value} {T : TypeId} {fr : Nat × Nat} (F : Array Value) (hb : w.heap[g]? = some (.cells cur T fr)) :
    (Sort.grow (Sort.putRow id (Sort.ahead w n) g 0 F) os).heap[g]? = some (.cells (Sort.putCells id 0 F cur) T fr) := by
  have hg : g < w.heap.size := (Array.getElem?_eq_some_iff.1 hb).1
  rw [Sort.heap_grow_old _ _ (by simpa using hg)]
  simp [Sort.putRow, Sort.mapBlock, Sort.ahead, Array.getElem?_modify, hb, Sort.onCells]
theorem grown_put {w : World} {g n : Nat} {os : Array Obj} (F : Array Value) : w.grownBy (Sort.grow (Sort.putRow id (Sort.ahead w n) g 0 F) os) (some g) := by
  refine ⟨rfl, rfl, rfl, by simp, fun k hk hne => ?_⟩
  rw [Sort.heap_grow_old _ _ (by simpa using hk)]
  have : g ≠ k := fun e => hne (by rw [e])
  simp [Sort.putRow, Sort.mapBlock, Sort.ahead, Array.getElem?_modify, this]
theorem take_put (cur F : Array Value) (h : F.size ≤ cur.size) : (Sort.putCells id 0 F cur).toList.take F.size = F.toList := by
  apply List.ext_getElem?
  intro j
  by_cases hj : j < F.size
  · rw [List.getElem?_take_of_lt hj, Array.getElem?_toList, Array.getElem?_toList]
    simp [Sort.putCells, hj, show j < cur.size by omega]
  · rw [List.getElem?_take_eq_none (by omega), List.getElem?_eq_none (by simp; omega)]
/-- Behind the sort the same slice owns the sorted list. -/
theorem own_sorted {α : Type} [Inhabited α] {L : Lay α} {w : World} {base g cap n : Nat} {T : TypeId} {os : Array Obj} {cur : Array Value} {xs : List α} {d : Array α} (hl : d.size = xs.length) (hbase : base ≤ g) (hb : w.heap[g]? = some (.cells cur T (0, 0)))
    (h1 : xs.length ≤ cap) (h2 : cap ≤ maxLen) (h3 : cur.size = cap * L.size) :
    (sortWorldK L.enc L.size w g 0 n d os).ownsRow base T L.size (.slice (some ⟨g, 0, none⟩) xs.length cap) xs.length (L.cells d.toList) := by
  have hF : (Sort.flatK L.enc L.size d).size = xs.length * L.size := by simp [hl]
  have hle : (Sort.flatK L.enc L.size d).size ≤ cur.size := by rw [hF, h3]; exact Nat.mul_le_mul_right _ h1
  have ht := take_put cur (Sort.flatK L.enc L.size d) hle
  rw [flat_cells, hF] at ht
  refine ⟨by rw [cells_len]; simp [hl], .inr ⟨g, cap, _, rfl, hbase, heap_put _ hb, h1, h2, by simp [Sort.putCells, h3], ht⟩⟩

/-! ### What is compared -/

def cmpN (x y : Sp) : Int := if x.1 < y.1 then -1 else if y.1 < x.1 then 1 else 0
theorem cmp_lt (x y : Sp) : ltOf cmpN x y = decide (x.1 < y.1) := by
  unfold ltOf cmpN
  by_cases h1 : x.1 < y.1
  · simp [h1]
  · by_cases h2 : y.1 < x.1 <;> simp [h1, h2]
theorem cmp_swo : Sort.SWO (ltOf cmpN) where
  irrefl x := by rw [cmp_lt]; simp
  trans x y z h1 h2 := by rw [cmp_lt] at *; simp at *; omega
  ntrans x y z h1 h2 := by rw [cmp_lt] at *; simp at *; omega

theorem compare_any (x y : Sp) (w : World) : Calls Try.prog 84 #[.int .u64 (x.1 : Int), .int .u64 (y.1 : Int)] w fun e w' => e = .returned (.int .i64 (cmpN x y)) ∧ w' = w := by
  unfold cmpN
  obtain ⟨a, ha⟩ : ∃ a, x.1 = a := ⟨_, rfl⟩
  obtain ⟨b, hb⟩ : ∃ a, y.1 = a := ⟨_, rfl⟩
  rw [ha, hb]
  clear ha hb
  by_cases h1 : a < b
  · rw [if_pos h1]
    go_enter Try.func84, Try.ntmps84
    go_wp2
    go_ret
    exact ⟨rfl, rfl⟩
  · rw [if_neg h1]
    by_cases h2 : b < a
    · rw [if_pos h2]
      go_enter Try.func84, Try.ntmps84
      go_wp2
      go_ret
      exact ⟨rfl, rfl⟩
    · rw [if_neg h2]
      go_enter Try.func84, Try.ntmps84
      go_wp2
      go_ret
      exact ⟨rfl, rfl⟩

set_option maxHeartbeats 1000000 in
theorem closure_any (x y : Sp) (W : World) : Calls Try.prog 83 #[.agg #[.int .u64 (x.1 : Int), .int .u64 (x.2 : Int)], .agg #[.int .u64 (y.1 : Int), .int .u64 (y.2 : Int)]] W fun e w' => e = .returned (.int .i64 (cmpN x y)) ∧ ∃ q os', w' = Sort.grow (W.drewN q) os' := by
  have hcon := fun W' => compare_any x y W'
  generalize cmpN x y = r at hcon ⊢
  have HC := Lib.hid hcon
  clear hcon
  go_enter Try.func83, Try.ntmps83
  go_wp2_with (go_at_call 84; refine (HC.out _).mono ?_; rintro e w' ⟨rfl, rfl⟩)
  go_ret
  exact ⟨rfl, 0, _, by rw [Sort.alloc_eq_grow, Sort.alloc_eq_grow, Sort.grow_grow]; rfl⟩

/-! ### The contract -/

theorem sort_some (xs : List Sp) (hl : xs.length ≤ 10000000) (base : Nat) (w : World) (g cap : Nat) (h : OwnT 140 w base (.slice (some ⟨g, 0, none⟩) xs.length cap) xs) :
    Calls Try.prog 82 #[.slice (some ⟨g, 0, none⟩) xs.length cap, .func (.func 83) #[] #[]] w fun e w' => e = .returned (.tuple #[]) ∧
      ∃ ys : List Sp, ys.Perm xs ∧ (ys.Pairwise fun x y => x.1 ≤ y.1) ∧ ys.length = xs.length ∧ OwnT 140 w' base (.slice (some ⟨g, 0, none⟩) xs.length cap) ys ∧ w.grownBy w' (some g) := by
  have eg : ∀ args w, (callFunc 83 args).run Try.prog w = .ok (.enter 83 args) w := enters_of Try.func83 (by kernel_rfl) rfl
  have hH : Sort.HoldsK spL.enc spL.size w g 0 xs.toArray := holds_own h
  have hblk : g < w.heap.size := (h.lt g rfl).2
  have hcon := AnyQ.slices_SortFunc sortLot 2 Try.isAgg140 Try.sizeOf140 spL.enc spL.len (fun x v hv => sp_one [x] x List.mem_cons_self v hv) cmpN cmp_swo 83 #[] g 0 cap xs.toArray w eg (fun _ _ _ _ x y => closure_any x y _) hH hblk (by simp; omega)
  rw [List.size_toArray] at hcon
  refine Calls.mono hcon ?_
  rintro e w' ⟨rfl, d', n, os, ⟨hp1, _, hp3⟩, hs, rfl⟩
  refine ⟨rfl, d'.toList, ?_, ?_, by simpa using hp1, ?_, ?_⟩
  · have e1 : d'.extract 0 xs.toArray.size = d' := by rw [← hp1]; simp
    have e2 : xs.toArray.extract 0 xs.toArray.size = xs.toArray := by simp
    rw [List.size_toArray] at e1 e2
    rw [e1, e2] at hp3
    simpa using hp3
  · rw [List.pairwise_iff_getElem]
    intro i j hi hj hij
    have hj' : j < d'.size := by simpa using hj
    have hi' : i < d'.size := by simpa using hi
    have hjx : j < xs.length := by have := hp1; simp at this; omega
    have := hs i j (Nat.zero_le _) hij (by simpa using hjx)
    rw [cmp_lt, getElem!_pos d' j hj', getElem!_pos d' i hi'] at this
    simp at this
    simpa using this
  · rcases h.2 with ⟨e, _⟩ | ⟨g', cap', cur, e, hbase, hb, h1, h2, h3, h4⟩
    · cases e
    · injection e with e1 e2 e3
      injection e1 with e1
      injection e1 with e1
      subst e1
      subst e3
      have := own_sorted (L := spL) (d := d') (n := n) (os := os) (xs := xs) (by simpa using hp1) hbase hb h1 h2 h3
      unfold OwnT
      rw [show d'.toList.length = xs.length by simpa using hp1]
      exact this
  · exact grown_put _

set_option maxHeartbeats 2000000 in
theorem insertion_none (p : Option Addr) (cap : Nat) (fv : Value) (w : World) :
    Calls Try.prog 111 #[.slice p 0 cap, .int .i64 0, .int .i64 0, fv] w fun e w' => e = .returned (.tuple #[]) ∧ w' = w := by
  go_enter Try.func111, Try.ntmps111
  go_wp2
  refine wp_loop_rounds 1 ?_
  rw [rounds_succ]
  go_wp2
  go_end0
  exact ⟨rfl, rfl⟩
set_option maxHeartbeats 2000000 in
theorem pdq_none (p : Option Addr) (cap : Nat) (lim : Int) (fv : Value) (w : World) :
    Calls Try.prog 99 #[.slice p 0 cap, .int .i64 0, .int .i64 0, .int .i64 lim, fv] w fun e w' => e = .returned (.tuple #[]) ∧ w' = w := by
  have hi := fun W => insertion_none p cap fv W
  go_enter Try.func99, Try.ntmps99
  go_wp2
  refine wp_loop_rounds 1 ?_
  rw [rounds_succ]
  go_wp2_with (go_at_call 111; refine (hi _).mono ?_; rintro e w' ⟨rfl, rfl⟩)
  (try simp only [Exit.inBlock, Exit.then]); refine bodyPost_ret (results_none rfl _ _ _) rfl ?_
  exact ⟨rfl, rfl⟩
set_option maxHeartbeats 2000000 in
theorem sort_none (p : Option Addr) (cap : Nat) (fv : Value) (w : World) :
    Calls Try.prog 82 #[.slice p 0 cap, fv] w fun e w' => e = .returned (.tuple #[]) ∧ w' = w := by
  have hp := fun lim W => pdq_none p cap lim fv W
  have hl : ∀ W, Calls Try.prog 100 #[.int .u64 0] W fun e w' => e = .returned (.int .i64 (Lib.bitLen 0 : Nat)) ∧ w' = W := fun W => by
    have h := Any.bits_Len (SlLaysF0.n15.bits (P := Try.prog) (ρ := sortLot_ren) { sortLot with }) 0 W (by omega) (by omega)
    exact h
  go_enter Try.func82, Try.ntmps82
  go_wp2_with (first | (go_at_call 100; refine (hl _).mono ?_; rintro e w' ⟨rfl, rfl⟩) | (go_at_call 99; refine (hp _ _).mono ?_; rintro e w' ⟨rfl, rfl⟩))
  go_end0
  exact ⟨rfl, rfl⟩

theorem sort_any (xs : List Sp) (hl : xs.length ≤ 10000000) (base : Nat) (w : World) (A : Option Addr) (c : Nat) (h : OwnT 140 w base (.slice A xs.length c) xs) :
    Calls Try.prog 82 #[.slice A xs.length c, .func (.func 83) #[] #[]] w fun e w' => e = .returned (.tuple #[]) ∧
      ∃ ys : List Sp, ys.Perm xs ∧ (ys.Pairwise fun x y => x.1 ≤ y.1) ∧ ys.length = xs.length ∧ OwnT 140 w' base (.slice A xs.length c) ys ∧ w.grownBy w' (Value.slice A xs.length c).ownBlock := by
  rcases h.2 with ⟨e, h0⟩ | ⟨g, cap, cur, e, _⟩
  · injection e with e1 e2 e3
    have hx : xs = [] := List.eq_nil_of_length_eq_zero h0
    subst hx e1 e3
    refine (sort_none none 0 _ w).mono ?_
    rintro e w' ⟨rfl, rfl⟩
    exact ⟨rfl, [], List.Perm.refl _, List.Pairwise.nil, rfl, h, World.grownBy.refl _ _⟩
  · injection e with e1 e2 e3
    subst e1 e3
    exact sort_some xs hl base w g _ h

end Go.Proofs.Ytpdhkpgnajfobaa
end
section
/- The contracts of replay's small functions: refusal's closures, slices.IndexFunc and ContainsFunc as it calls them, greatestGen. -/
namespace Go.Proofs.Ytpdhkpgnajfobaa
open Go.RowKit Go.Shelf Go.Proofs.Rw Go.Proofs.Lh

/-- A predicate on events, as a function value. -/
def EvFn (g : Nat) (p : Ev → Bool) : Prop := ∀ (x : Ev) (w : World), x.1 < 18446744073709551616 → x.2.2 < 18446744073709551616 → Calls Try.prog g #[.agg #[.int .u64 (x.1 : Int), .int .u64 (x.2.1 : Int), .int .u64 (x.2.2 : Int)]] w fun e w' => e = .returned (.bool (p x)) ∧ Below w.heap.size w w'

theorem noweight_any : EvFn 73 fun x => x.2.2 == 0 := by
  intro x w hx hz
  obtain ⟨t, y, n⟩ := x
  dsimp only at hx hz ⊢
  go_enter Try.func73, Try.ntmps73
  go_wp2
  go_ret
  refine ⟨ret_b ?_, (Below.refl _ w).alloc (Nat.le_refl _) _⟩
  rw [Bool.eq_iff_iff]
  simp
  try omega
theorem beyond_any : EvFn 75 fun x => decide (9223372036854775807 < x.1) := by
  intro x w hx hz
  obtain ⟨t, y, n⟩ := x
  dsimp only at hx hz ⊢
  go_enter Try.func75, Try.ntmps75
  go_wp2
  go_ret
  refine ⟨ret_b ?_, (Below.refl _ w).alloc (Nat.le_refl _) _⟩
  rw [Bool.eq_iff_iff]
  simp
  try omega

set_option maxHeartbeats 1000000 in
theorem eindex_any {g : Nat} {p : Ev → Bool} (hp : EvFn g p) (eg : ∀ args w, (callFunc g args).run Try.prog w = .ok (.enter g args) w) (xs : List Ev) (hl : xs.length ≤ 1000000) (hf : Fits3 xs) (w : World) (A : Option Addr) (c : Nat) (h : Lies evL w w.heap.size (.slice A xs.length c) xs) :
    Calls Try.prog 96 #[.slice A xs.length c, .func (.func g) #[] #[]] w fun e w' => ∃ r : Int, e = .returned (.int .i64 r) ∧ (decide (0 ≤ r) = xs.any p) ∧ -1 ≤ r ∧ r ≤ 1000000 ∧ Below w.heap.size w w' := by
  obtain ⟨N, hN⟩ : ∃ N, xs.length = N := ⟨_, rfl⟩
  have HL := Lib.hid h
  rw [hN] at HL hl ⊢
  have HN := Lib.hid hN
  have HF := Lib.hid hf
  have HP := Lib.hid hp
  clear h hN hf hp
  go_enter Try.func96, Try.ntmps96
  go_wp2
  go_loopw [8] (fun p' wr => ∃ j : Nat, p' = .int .i64 (j : Int) ∧ j ≤ N ∧ Hid (∀ i (hi : i < xs.length), i < j → p xs[i] = false) ∧ Hid (Below w.heap.size w wr)) (fun p _ => N - (intOf p).toNat)
  case atStart => exact ⟨0, rfl, Nat.zero_le _, Lib.hid fun i _ hi => absurd hi (by omega), Lib.hid (Below.refl _ _)⟩
  case round =>
    obtain ⟨j, rfl, hj, HALL, HB⟩ := hrel
    by_cases hlt : j < N
    · have hjl : j < xs.length := by rw [HN.out]; exact hlt
      obtain ⟨b2, off2, rfl, hb2, -, hc2⟩ := ev_at (HL.out.below HB.out) (by omega)
      obtain ⟨e0, e1, e2⟩ := hc2 j hjl
      obtain ⟨f0, f1, f2⟩ := HF.out xs[j] (List.getElem_mem hjl)
      have hs := HP.out xs[j] wr f0 f2
      obtain ⟨q, hq⟩ : ∃ q, p xs[j] = q := ⟨_, rfl⟩
      rw [hq] at hs
      generalize xs[j].1 = t0 at *
      generalize xs[j].2.1 = t1 at *
      generalize xs[j].2.2 = t2 at *
      have hbb : b2 < wr.heap.size := Nat.lt_of_lt_of_le hb2 HB.out.size
      have HS := Lib.hid hs
      have HQ := Lib.hid hq
      clear hs hq hc2
      cases q with
      | true =>
        go_wp2_with (go_at_fn g; refine HS.out.mono ?_; rintro e w9 ⟨rfl, hb9⟩; have HB9 := Lib.hid hb9; clear hb9)
        go_ret
        refine ⟨_, rfl, ?_, by omega, by omega, thn HB.out HB9.out⟩
        rw [decide_eq_true (by omega), eq_comm, List.any_eq_true]
        exact ⟨xs[j], List.getElem_mem hjl, HQ.out⟩
      | false =>
        go_wp2_with (go_at_fn g; refine HS.out.mono ?_; rintro e w9 ⟨rfl, hb9⟩; have HB9 := Lib.hid hb9; clear hb9)
        refine ⟨⟨j + 1, by go_num, hlt, Lib.hid fun i hi hij => ?_, Lib.hid (thn HB.out HB9.out)⟩, by simp [intOf]; omega⟩
        rcases Nat.lt_or_ge i j with h' | h'
        · exact HALL.out i hi h'
        · have e : i = j := by omega
          subst e
          exact HQ.out
    · have e : j = N := by omega
      subst e
      go_wp2
      go_ret
      refine ⟨_, rfl, ?_, by omega, by omega, HB.out⟩
      rw [eq_comm]
      simp only [Int.reduceNeg, Int.reduceLE, decide_false]
      rw [List.any_eq_false]
      intro a ha
      obtain ⟨i, hi, e⟩ := List.getElem_of_mem ha
      have := HALL.out i hi (by rw [← HN.out]; exact hi)
      rw [e] at this
      simp [this]

theorem econtains_any {g : Nat} {p : Ev → Bool} (hp : EvFn g p) (eg : ∀ args w, (callFunc g args).run Try.prog w = .ok (.enter g args) w) (xs : List Ev) (hl : xs.length ≤ 1000000) (hf : Fits3 xs) (w : World) (A : Option Addr) (c : Nat) (h : Lies evL w w.heap.size (.slice A xs.length c) xs) :
    Calls Try.prog 76 #[.slice A xs.length c, .func (.func g) #[] #[]] w fun e w' => e = .returned (.bool (xs.any p)) ∧ Below w.heap.size w w' := by
  have hi := eindex_any hp eg xs hl hf w A c h
  have HI := Lib.hid hi
  clear hi h hp hf
  go_enter Try.func76, Try.ntmps76
  go_wp2_with (go_at_call 96; refine HI.out.mono ?_; rintro e w1 ⟨r, rfl, hr, r0, r1, hb1⟩; have HB1 := Lib.hid hb1; have HR := Lib.hid hr; clear hb1 hr)
  go_ret
  exact ⟨ret_b HR.out, HB1.out⟩

set_option maxHeartbeats 1000000 in
/-- The closure 'unlike': l lies in a box. -/
theorem unlike_any (k g k0 : Int) (v : Value) (n c bx b off : Nat) (hn : 0 < n) (w : World) (hbx : w.heap[bx]? = some (.cells #[.slice (some ⟨b, off, none⟩) n c] 62)) (hc : w.cell? ⟨b, off, none⟩ = some (.int .i64 k0)) :
    Calls Try.prog 74 #[.agg #[.int .i64 k, .int .i64 g, v], .pointer (some ⟨bx, 0, none⟩)] w fun e w' => e = .returned (.bool (k != k0)) ∧ Below w.heap.size w w' := by
  have hbl := lt_of hbx
  have hcell : w.cell? ⟨bx, 0, none⟩ = some (.slice (some ⟨b, off, none⟩) n c) := by simp [World.cell?, hbx]
  have hni : (0 : Int) < (n : Int) := by omega
  have hb : b < w.heap.size := World.block_lt_of_cell? w _ hc
  have hbel : Below w.heap.size w (w.alloc (.cells #[.int .i64 k, .int .i64 g, v] 32)) := (Below.refl _ w).alloc (Nat.le_refl _) _
  have HBEL := Lib.hid hbel
  obtain ⟨q, hq⟩ : ∃ q, (k != k0) = q := ⟨_, rfl⟩
  rw [hq]
  clear hbx hbel
  go_enter Try.func74, Try.ntmps74
  go_wp2
  go_region
  all_goals
    go_wp2
    go_ret
    exact ⟨rfl, HBEL.out.drew⟩

set_option maxHeartbeats 1000000 in
theorem hindex_any (xs : List Hx) (hl : xs.length ≤ 1000000) (k0 : Int) (w : World) (A : Option Addr) (c bx : Nat) (h : Hs w w.heap.size (.slice A xs.length c) xs) (h0 : ∀ (hx : 0 < xs.length), xs[0].k = k0) (hbx : w.heap[bx]? = some (.cells #[.slice A xs.length c] 62)) :
    Calls Try.prog 97 #[.slice A xs.length c, .func (.func 74) #[] #[.pointer (some ⟨bx, 0, none⟩)]] w fun e w' => ∃ r : Int, e = .returned (.int .i64 r) ∧ (decide (0 ≤ r) = xs.any fun x => x.k != k0) ∧ -1 ≤ r ∧ r ≤ 1000000 ∧ Below w.heap.size w w' := by
  obtain ⟨N, hN⟩ : ∃ N, xs.length = N := ⟨_, rfl⟩
  have HL := Lib.hid h
  rw [hN] at HL hl hbx ⊢
  have HN := Lib.hid hN
  have HX := Lib.hid hbx
  clear h hN hbx
  go_enter Try.func97, Try.ntmps97
  go_wp2
  go_loopw [8] (fun p' wr => ∃ j : Nat, p' = .int .i64 (j : Int) ∧ j ≤ N ∧ Hid (∀ i (hi : i < xs.length), i < j → (xs[i].k != k0) = false) ∧ Hid (Below w.heap.size w wr)) (fun p _ => N - (intOf p).toNat)
  case atStart => exact ⟨0, rfl, Nat.zero_le _, Lib.hid fun i _ hi => absurd hi (by omega), Lib.hid (Below.refl _ _)⟩
  case round =>
    obtain ⟨j, rfl, hj, HALL, HB⟩ := hrel
    by_cases hlt : j < N
    · have hjl : j < xs.length := by rw [HN.out]; exact hlt
      obtain ⟨b2, off2, rfl, hb2, -, hc2⟩ := (HL.out.below HB.out).at (by omega)
      obtain ⟨e0, e1, e2, -⟩ := hc2 j hjl
      obtain ⟨z0, -, -, -⟩ := hc2 0 (by omega)
      have hs := unlike_any xs[j].k xs[j].g k0 (.slice xs[j].A xs[j].ls.length xs[j].c) N c bx b2 off2 (by omega) wr ((HB.out.block bx (lt_of HX.out)).trans HX.out) (by rw [← h0 (by omega)]; simpa using z0)
      obtain ⟨q, hq⟩ : ∃ q, (xs[j].k != k0) = q := ⟨_, rfl⟩
      rw [hq] at hs
      have HQ := Lib.hid hq
      clear hq
      generalize xs[j].k = t0 at hs e0
      generalize xs[j].g = t1 at *
      generalize xs[j].A = t2 at *
      generalize xs[j].ls.length = t3 at *
      generalize xs[j].c = t4 at *
      have hbb : b2 < wr.heap.size := Nat.lt_of_lt_of_le hb2 HB.out.size
      have HS := Lib.hid hs
      clear hs hc2 z0
      cases q with
      | true =>
        go_wp2_with (go_at_call 74; refine HS.out.mono ?_; rintro e w9 ⟨rfl, hb9⟩; have HB9 := Lib.hid hb9; clear hb9)
        go_ret
        refine ⟨_, rfl, ?_, by omega, by omega, thn HB.out HB9.out⟩
        rw [decide_eq_true (by omega), eq_comm, List.any_eq_true]
        exact ⟨xs[j], List.getElem_mem hjl, HQ.out⟩
      | false =>
        go_wp2_with (go_at_call 74; refine HS.out.mono ?_; rintro e w9 ⟨rfl, hb9⟩; have HB9 := Lib.hid hb9; clear hb9)
        refine ⟨⟨j + 1, by go_num, hlt, Lib.hid fun i hi hij => ?_, Lib.hid (thn HB.out HB9.out)⟩, by simp [intOf]; omega⟩
        rcases Nat.lt_or_ge i j with h' | h'
        · exact HALL.out i hi h'
        · have e : i = j := by omega
          subst e
          exact HQ.out
    · have e : j = N := by omega
      subst e
      go_wp2
      go_ret
      refine ⟨_, rfl, ?_, by omega, by omega, HB.out⟩
      rw [eq_comm]
      simp only [Int.reduceNeg, Int.reduceLE, decide_false]
      rw [List.any_eq_false]
      intro a ha
      obtain ⟨i, hi, e⟩ := List.getElem_of_mem ha
      have := HALL.out i hi (by rw [← HN.out]; exact hi)
      rw [e] at this
      simp [this]

theorem hcontains_any (xs : List Hx) (hl : xs.length ≤ 1000000) (k0 : Int) (w : World) (A : Option Addr) (c bx : Nat) (h : Hs w w.heap.size (.slice A xs.length c) xs) (h0 : ∀ (hx : 0 < xs.length), xs[0].k = k0) (hbx : w.heap[bx]? = some (.cells #[.slice A xs.length c] 62)) :
    Calls Try.prog 77 #[.slice A xs.length c, .func (.func 74) #[] #[.pointer (some ⟨bx, 0, none⟩)]] w fun e w' => e = .returned (.bool (xs.any fun x => x.k != k0)) ∧ Below w.heap.size w w' := by
  have hi := hindex_any xs hl k0 w A c bx h h0 hbx
  have HI := Lib.hid hi
  clear hi h hbx h0
  go_enter Try.func77, Try.ntmps77
  go_wp2_with (go_at_call 97; refine HI.out.mono ?_; rintro e w1 ⟨r, rfl, hr, r0, r1, hb1⟩; have HB1 := Lib.hid hb1; have HR := Lib.hid hr; clear hb1 hr)
  go_ret
  exact ⟨ret_b HR.out, HB1.out⟩

set_option maxHeartbeats 1000000 in
theorem ggen_any (xs : List Hx) (hl : xs.length ≤ 1000000) (hg : ∀ x ∈ xs, x.g ≤ 4) (w : World) (A : Option Addr) (c : Nat) (h : Hs w w.heap.size (.slice A xs.length c) xs) :
    Calls Try.prog 51 #[.slice A xs.length c] w fun e w' => e = .returned (.int .i64 (gmax (xs.map Hx.m))) ∧ Below w.heap.size w w' := by
  obtain ⟨N, hN⟩ : ∃ N, xs.length = N := ⟨_, rfl⟩
  have HL := Lib.hid h
  rw [hN] at HL hl ⊢
  have HN := Lib.hid hN
  have HG := Lib.hid hg
  clear h hN hg
  go_enter Try.func51, Try.ntmps51
  go_wp2
  go_loopw [3, 8] (fun q p wr => ∃ (j : Nat) (G : Int), p = .int .i64 (j : Int) ∧ q = .int .i64 G ∧ j ≤ N ∧ Hid (G = gmax ((xs.map Hx.m).take j)) ∧ 0 ≤ G ∧ G ≤ 4 ∧ Hid (Below w.heap.size w wr)) (fun _ p _ => N - (intOf p).toNat)
  case atStart => exact ⟨0, 0, rfl, rfl, Nat.zero_le _, Lib.hid (by simp [gmax]), by omega, by omega, Lib.hid (Below.refl _ _)⟩
  case round =>
    obtain ⟨j, G, rfl, rfl, hj, HGE, g0, g4, HB⟩ := hrel
    by_cases hlt : j < N
    · have hjl : j < xs.length := by rw [HN.out]; exact hlt
      obtain ⟨b2, off2, rfl, hb2, -, hc2⟩ := (HL.out.below HB.out).at (by omega)
      obtain ⟨e0, e1, e2, -⟩ := hc2 j hjl
      have hst := gmax_take (ms := xs.map Hx.m) (i := j) (by simpa using hjl)
      have hg4 := HG.out xs[j] (List.getElem_mem hjl)
      simp only [List.getElem_map] at hst
      rw [← HGE.out, show xs[j].m.2.1 = xs[j].g from rfl] at hst
      generalize xs[j].k = t0 at *
      generalize xs[j].g = t1 at *
      generalize xs[j].A = t2 at *
      generalize xs[j].ls.length = t3 at *
      generalize xs[j].c = t4 at *
      have hbb : b2 < wr.heap.size := Nat.lt_of_lt_of_le hb2 HB.out.size
      have HST := Lib.hid hst
      clear hst hc2
      go_wp2
      refine ⟨⟨j + 1, max G t1, by go_num, by go_num, hlt, Lib.hid HST.out.symm, by omega, by omega, Lib.hid (HB.out.alloc HB.out.size _)⟩, by simp [intOf]; omega⟩
    · have e : j = N := by omega
      subst e
      have hfin := HGE.out
      rw [List.take_of_length_le (by simp [HN.out])] at hfin
      have HFIN := Lib.hid hfin
      clear hfin
      go_wp2
      go_ret
      exact ⟨by rw [HFIN.out]; rfl, HB.out⟩

end Go.Proofs.Ytpdhkpgnajfobaa
end
section
/- The buckets of a histogram, one behind the other, each with its level; what is sure of them, and what is cut, bucket by bucket. -/
namespace Go.Proofs.Lh
open Go.Proofs.Lm (Sp)

def bk : Nat → Lv → List (Nat × Sp)
  | _, [] => []
  | i, l :: ls => l.map (fun b => (i, b)) ++ bk (i + 1) ls
def sureV (p : Nat → Bool) (x : Nat × Sp) : Nat := if p x.2.1 = true then 2 ^ x.1 else 0
def cutV (p : Nat → Bool) (x : Nat × Sp) : Nat := if p x.2.1 = true then 0 else if p x.2.2 = true then 2 ^ x.1 else 0
def sumV (f : Nat × Sp → Nat) : List (Nat × Sp) → Nat
  | [] => 0
  | x :: r => f x + sumV f r
theorem sumV_app (f : Nat × Sp → Nat) : ∀ a b : List (Nat × Sp), sumV f (a ++ b) = sumV f a + sumV f b
  | [], b => by simp [sumV]
  | x :: a, b => by rw [List.cons_append, sumV, sumV, sumV_app f a b]; omega
theorem sure_map (p : Nat → Bool) (i : Nat) : ∀ l : List Sp, sumV (sureV p) (l.map fun b => (i, b)) = l.countP (sureP p) * 2 ^ i
  | [] => by simp [sumV]
  | b :: l => by
    rw [List.map_cons, sumV, sure_map p i l, List.countP_cons]
    unfold sureV sureP
    cases p b.1 <;> simp [Nat.add_mul]
    omega
theorem cut_map (p : Nat → Bool) (i : Nat) : ∀ l : List Sp, sumV (cutV p) (l.map fun b => (i, b)) = l.countP (cutP p) * 2 ^ i
  | [] => by simp [sumV]
  | b :: l => by
    rw [List.map_cons, sumV, cut_map p i l, List.countP_cons]
    unfold cutV cutP
    cases p b.1 <;> cases p b.2 <;> simp [Nat.add_mul]
    omega
theorem sure_bk (p : Nat → Bool) : ∀ (ls : Lv) (i : Nat), sumV (sureV p) (bk i ls) = sureL p i ls
  | [], _ => rfl
  | l :: ls, i => by rw [bk, sumV_app, sure_map, sure_bk p ls, sureL]
theorem cut_bk (p : Nat → Bool) : ∀ (ls : Lv) (i : Nat), sumV (cutV p) (bk i ls) = cutS p i ls
  | [], _ => rfl
  | l :: ls, i => by rw [bk, sumV_app, cut_map, cut_bk p ls, cutS]
theorem bk_app : ∀ (a b : Lv) (i : Nat), bk i (a ++ b) = bk i a ++ bk (i + a.length) b
  | [], b, i => by simp [bk]
  | l :: a, b, i => by rw [List.cons_append, bk, bk, bk_app a b (i + 1), List.append_assoc, List.length_cons, show i + 1 + a.length = i + (a.length + 1) by omega]
/-- Where the level i begins. -/
def offB (ls : Lv) (i : Nat) : Nat := (bk 0 (ls.take i)).length
theorem off_zero (ls : Lv) : offB ls 0 = 0 := by simp [offB, bk]
theorem off_succ {ls : Lv} {i : Nat} (h : i < ls.length) : offB ls (i + 1) = offB ls i + ls[i].length := by
  unfold offB
  rw [List.take_succ_eq_append_getElem h, bk_app, List.length_append]
  simp [bk]
theorem off_all (ls : Lv) : offB ls ls.length = (bk 0 ls).length := by simp [offB]
theorem bk_get {ls : Lv} {i j : Nat} (h : i < ls.length) (hj : j < ls[i].length) : (bk 0 ls)[offB ls i + j]? = some (i, ls[i][j]) := by
  have e : bk 0 ls = bk 0 (ls.take i) ++ (ls[i].map (fun b => (i, b)) ++ bk (i + 1) (ls.drop (i + 1))) := by
    have h2 := bk_app (ls.take i) (ls.drop i) 0
    rw [List.take_append_drop, List.drop_eq_getElem_cons h, bk, List.length_take, Nat.min_eq_left (by omega), Nat.zero_add] at h2
    exact h2
  rw [e, List.getElem?_append_right (by unfold offB; omega)]
  unfold offB
  rw [Nat.add_sub_cancel_left, List.getElem?_append_left (by simpa using hj)]
  simp [hj]
/-- Of which level a bucket is. -/
theorem bk_level {ls : Lv} {k : Nat} {x : Nat × Sp} (h : (bk 0 ls)[k]? = some x) : x.1 < ls.length := by
  suffices g : ∀ (ls : Lv) (i : Nat), ∀ y ∈ bk i ls, y.1 < i + ls.length by
    have := g ls 0 x (List.mem_of_getElem? h)
    omega
  intro ls
  induction ls with
  | nil => intro i y hy; simp [bk] at hy
  | cons l ls ih =>
    intro i y hy
    rw [bk] at hy
    rcases List.mem_append.1 hy with hy | hy
    · obtain ⟨b, _, rfl⟩ := List.mem_map.1 hy
      simp
    · have := ih (i + 1) y hy
      simp
      omega
/-- What is sure, and what is cut, of the first n buckets. -/
def sureTo (p : Nat → Bool) (ls : Lv) (n : Nat) : Nat := sumV (sureV p) ((bk 0 ls).take n)
def cutTo (p : Nat → Bool) (ls : Lv) (n : Nat) : Nat := sumV (cutV p) ((bk 0 ls).take n)
theorem sure_zero (p : Nat → Bool) (ls : Lv) : sureTo p ls 0 = 0 := by simp [sureTo, sumV]
theorem cut_zero (p : Nat → Bool) (ls : Lv) : cutTo p ls 0 = 0 := by simp [cutTo, sumV]
theorem sure_to (p : Nat → Bool) (ls : Lv) : sureTo p ls (bk 0 ls).length = sureL p 0 ls := by unfold sureTo; rw [List.take_length, sure_bk]
theorem cut_to (p : Nat → Bool) (ls : Lv) : cutTo p ls (bk 0 ls).length = cutS p 0 ls := by unfold cutTo; rw [List.take_length, cut_bk]
theorem sumV_take (f : Nat × Sp → Nat) {xs : List (Nat × Sp)} {k : Nat} {x : Nat × Sp} (h : xs[k]? = some x) : sumV f (xs.take (k + 1)) = sumV f (xs.take k) + f x := by
  obtain ⟨hk, e⟩ := List.getElem?_eq_some_iff.1 h
  rw [List.take_succ_eq_append_getElem hk, sumV_app, e]
  simp [sumV]
theorem sure_next {p : Nat → Bool} {ls : Lv} {k : Nat} {x : Nat × Sp} (h : (bk 0 ls)[k]? = some x) : sureTo p ls (k + 1) = sureTo p ls k + sureV p x := sumV_take _ h
theorem cut_next {p : Nat → Bool} {ls : Lv} {k : Nat} {x : Nat × Sp} (h : (bk 0 ls)[k]? = some x) : cutTo p ls (k + 1) = cutTo p ls k + cutV p x := sumV_take _ h
theorem sumV_le (f : Nat × Sp → Nat) (xs : List (Nat × Sp)) (k : Nat) : sumV f (xs.take k) ≤ sumV f xs := by
  have := sumV_app f (xs.take k) (xs.drop k)
  rw [List.take_append_drop] at this
  omega
theorem to_le (p : Nat → Bool) (ls : Lv) (k : Nat) : sureTo p ls k + cutTo p ls k ≤ tot ls := by
  have h1 := sumV_le (sureV p) (bk 0 ls) k
  have h2 := sumV_le (cutV p) (bk 0 ls) k
  rw [sure_bk] at h1
  rw [cut_bk] at h2
  have h3 := parts_le p ls 0
  rw [tot_eq] at h3
  unfold sureTo cutTo
  omega

end Go.Proofs.Lh
end
