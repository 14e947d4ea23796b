/- The contract of hash.Columns, its function that is ranged over, and that one's closure. -/
import Derived.RangeFuncNested
import Derived.RangeFuncBound
import Derived.RangeFuncCalls
import Derived.RangeFuncLeaves
import Derived.RangeFuncBox
import Derived.Shelf.Abstract
import Derived.Shelf.RegionOpen
import Derived.WalkKit
import Derived.OwnWalkIn
import Derived.TacticsInMore
import Derived.LoopNIn
import Derived.LoopIn
import Derived.Deep.OwnRows
import Derived.Test.YtgaapahhmpiibaaHCol
namespace Go.Proofs.Ytgaapahhmpiibaa
open Go.RowKit Go.Shelf Go.Proofs.Wm

attribute [local go_sem] Oper.semAt_some

/-- A row of seeds in blocks below r. -/
def Seeds (w : World) (r : Nat) (A : Option Addr) (len : Nat) (sa sb : Nat → Nat) : Prop :=
  len = 0 ∨ ∃ b off, A = some ⟨b, off, none⟩ ∧ b < r ∧ ∀ j, j < len → w.cell? ⟨b, off + j * 2, none⟩ = some (.int .u64 (sa j)) ∧ w.cell? ⟨b, off + j * 2 + 1, none⟩ = some (.int .u64 (sb j)) ∧ sa j < 18446744073709551616 ∧ sb j < 18446744073709551616

/-- What a round keeps: all blocks below N0 but r. -/
structure Kq (r N0 : Nat) (W W' : World) : Prop where
  size : W.heap.size ≤ W'.heap.size
  block : ∀ b, b < N0 → b ≠ r → W'.heap[b]? = W.heap[b]?
theorem Kq.refl (r N0 : Nat) (W : World) : Kq r N0 W W := ⟨Nat.le_refl _, fun _ _ _ => rfl⟩
theorem Kq.trans {r N0 : Nat} {A B C : World} (h : Kq r N0 A B) (k : Kq r N0 B C) : Kq r N0 A C := ⟨Nat.le_trans h.size k.size, fun b hb hr => (k.block b hb hr).trans (h.block b hb hr)⟩
theorem Kq.of_below {r N0 : Nat} {W W' : World} (h : Below W.heap.size W W') (hN : N0 ≤ W.heap.size) : Kq r N0 W W' := ⟨h.size, fun b hb _ => h.block b (by omega)⟩
theorem Kq.put {r N0 : Nat} {w : World} (hN : N0 ≤ w.heap.size) (W : World) (l : Nat) (o o' : Obj) (hl : w.heap.size ≤ l) (_ : W.heap[l]? = some o) (_ : o.isCells = false) (_ : o.isWalk = false) : Kq r N0 W (W.putObj l o') :=
  ⟨by simp, fun b hb _ => World.putObj_heap_other (by omega)⟩
theorem cell_of_block {W W' : World} {b : Nat} (h : W'.heap[b]? = W.heap[b]?) (o : Nat) : W'.cell? ⟨b, o, none⟩ = W.cell? ⟨b, o, none⟩ := by simp [World.cell?, h]
theorem grow_of_below {a b : World} (h : Below a.heap.size a b) : a.grownBy b none := ⟨h.os, h.tape, h.output, h.size, fun i hi _ => h.block i hi⟩

abbrev encc (sa sb : Nat → Nat) (x : Nat) (k : Int) (len : Nat) (i : Fin len) : Array Value := #[.int .i64 (i.1 : Int), .int .i64 (col (sa i.1) (sb i.1) x k)]

set_option maxRecDepth 100000 in
set_option maxHeartbeats 1000000 in
theorem cols1_in (n : Nat) (hn : 1 ≤ n) (l r N0 B0 B1 B2 : Nat) (A : Option Addr) (len cap : Nat) (sa sb : Nat → Nat) (x : Nat) (hx : x < 18446744073709551616) (k : Int) (k0 : -9223372036854775808 ≤ k) (k1 : k ≤ 9223372036854775807)
    (hl : len ≤ 1000000) (hr : r ≤ N0) (h1 : B1 < N0) (h1r : B1 ≠ r) (h2 : B2 < N0) (h2r : B2 ≠ r)
    (J Jx : List (Fin len) → World → Prop) (W : World) (hN : N0 ≤ W.heap.size) (hJ : AbidesFrom W.heap.size J)
    (hY : ∀ pre i W1, J pre W1 → pre.length < len → YieldAt Fence.wide (n - 1) Try.prog l (encc sa sb x k len i) W1 fun e W' =>
      (e = .returned (.bool true) ∧ J (pre ++ [i]) W' ∧ Kq r N0 W1 W') ∨ (e = .returned (.bool false) ∧ Jx (pre ++ [i]) W'))
    (c0 : W.cell? ⟨B0, 0, none⟩ = some (.slice A len cap)) (c1 : W.cell? ⟨B1, 0, none⟩ = some (.int .u64 x)) (c2 : W.cell? ⟨B2, 0, none⟩ = some (.int .i64 k)) (hS : Seeds W r A len sa sb) (hJ0 : J [] W) :
    CallsIn Fence.wide n Try.prog 27 #[.func (.yield l) #[] #[], .pointer (some ⟨B0, 0, none⟩), .pointer (some ⟨B1, 0, none⟩), .pointer (some ⟨B2, 0, none⟩)] W fun e W' => (∃ v, e = .returned v) ∧
      ((∃ ys, (∀ i : Fin len, i ∈ ys) ∧ J ys W') ∨ (∃ pre, True ∧ Jx pre W')) := by
  have HJ := Lib.hid hJ
  have HY := Lib.hid hY
  have HS := Lib.hid hS
  clear hJ hY hS
  refine callsIn_of_wp Try.func27 rfl trivial ?_ rfl
  simp only [Try.ntmps27, List.size_toArray, List.length_cons, List.length_nil, Nat.reduceAdd, Nat.reduceSub, Array.replicate_succ, Array.replicate_zero, List.push_toArray, List.append_toArray, List.nil_append, List.cons_append]
  gi_wp2
  gi_loopw [9] (fun p wr => ∃ pre : List (Fin len), p = .int .i64 pre.length ∧ pre.length ≤ len ∧ (∀ i : Fin len, i.1 < pre.length → i ∈ pre) ∧ J pre wr ∧ Kq r N0 W wr)
    (fun p _ => len - (intOf p).toNat)
  case atStart =>
    exact ⟨[], rfl, by simp, by simp, hJ0, Kq.refl _ _ _⟩
  case round =>
    obtain ⟨pre, rfl, hle, hall, hJs, hK⟩ := hrel
    have hsz : N0 ≤ wr.heap.size := Nat.le_trans hN hK.size
    obtain ⟨j, hj⟩ : ∃ j, pre.length = j := ⟨_, rfl⟩
    rw [hj] at hle ⊢
    by_cases hlt : j < len
    · have hall2 : ∀ i : Fin len, i.1 < j + 1 → i ∈ pre ++ [⟨j, hlt⟩] := fun i hi => by
        rcases Nat.lt_or_ge i.1 j with h | h
        · exact List.mem_append_left _ (hall i (by omega))
        · have e : i = ⟨j, hlt⟩ := Fin.ext (show i.1 = j by omega)
          rw [e]
          simp
      have HALL := Lib.hid hall2
      have e1 := (cell_of_block (hK.block B1 h1 h1r) 0).trans c1
      have e2 := (cell_of_block (hK.block B2 h2 h2r) 0).trans c2
      have g1 : B1 < wr.heap.size := by omega
      have g2 : B2 < wr.heap.size := by omega
      rcases HS.out with h | ⟨b, off, rfl, hb, hc⟩
      · omega
      obtain ⟨q0, q1, l0, l1⟩ := hc j hlt
      have q0' := (cell_of_block (hK.block b (by omega) (by omega)) (off + j * 2)).trans q0
      have q1' := (cell_of_block (hK.block b (by omega) (by omega)) (off + j * 2 + 1)).trans q1
      have HN := Lib.hid hN
      have HLE := Lib.hid hle
      have HLEN := Lib.hid hj
      have HR := Lib.hid hr
      have HKK := Lib.hid hK
      clear hall hall2 c0 c1 c2 q0 q1 hc hK hJ0 hj hle
      gi_wp2_with (refine ⟨trivial, ?_⟩; gi_at_call 9; refine (callsIn_wide.2 (column_any (sa j) (sb j) x l0 l1 hx k k0 k1 _)).mono ?_; rintro e w2 ⟨rfl, hb2⟩; have hb3 := (below_row wr _).trans (hb2.mono (by simp)); clear hb2; have hK2 := HKK.out.trans (Kq.of_below hb3 hsz); obtain ⟨fn, tmps, assign, body, hy, hR⟩ := HY.out pre ⟨j, hlt⟩ w2 (HJ.out pre wr w2 none hJs (grow_of_below hb3) (fun r e => by cases e)) (by rw [HLEN.out]; exact hlt); dsimp only [encc] at hy; clear hb3)
      refine hR.mono ?_
      rintro e W3 (⟨rfl, hJ3, hk3⟩ | ⟨rfl, hJx3⟩)
      · gi_wp2
        go_roundw
        case rel => exact ⟨pre ++ [⟨j, hlt⟩], by simp [HLEN.out], by simp [HLEN.out]; omega, fun i hi => HALL.out i (by simp [HLEN.out] at hi; omega), hJ3, hK2.trans hk3⟩
        case measure => simp [intOf]; omega
      · gi_wp2
        refine bodyPost_ret (results_none rfl _ _ _) rfl ?_
        exact ⟨⟨_, rfl⟩, .inr ⟨_, trivial, hJx3⟩⟩
    · have hall2 : ∀ i : Fin len, i ∈ pre := fun i => hall i (by have := i.2; omega)
      have HALL := Lib.hid hall2
      clear hall hall2
      gi_wp2
      refine bodyPost_end (results_none rfl _ _ _) rfl ?_
      exact ⟨⟨_, rfl⟩, .inl ⟨_, HALL.out, hJs⟩⟩

theorem cols_stops (n : Nat) (hn : 1 ≤ n) (r N0 B0 B1 B2 : Nat) (A : Option Addr) (len cap : Nat) (sa sb : Nat → Nat) (x : Nat) (hx : x < 18446744073709551616) (k : Int) (k0 : -9223372036854775808 ≤ k) (k1 : k ≤ 9223372036854775807)
    (hl : len ≤ 1000000) (hr : r ≤ N0) (h0 : B0 < N0) (h1 : B1 < N0) (h1r : B1 ≠ r) (h2 : B2 < N0) (h2r : B2 ≠ r) (w : World) (hN : N0 ≤ w.heap.size)
    (c0 : w.cell? ⟨B0, 0, none⟩ = some (.slice A len cap)) (c1 : w.cell? ⟨B1, 0, none⟩ = some (.int .u64 x)) (c2 : w.cell? ⟨B2, 0, none⟩ = some (.int .i64 k)) (hS : Seeds w r A len sa sb) :
    SeqStopsK Fence.wide n Try.prog 27 #[.pointer (some ⟨B0, 0, none⟩), .pointer (some ⟨B1, 0, none⟩), .pointer (some ⟨B2, 0, none⟩)] (encc sa sb x k len) (Kq r N0) (fun ys => ∀ i : Fin len, i ∈ ys) (fun _ => True) len w := fun l J Jx W hW hJ _ hY hJ0 => by
  have cell : ∀ b o, b < w.heap.size → W.cell? ⟨b, o, none⟩ = w.cell? ⟨b, o, none⟩ := fun b o h => hW.cell (p := ⟨b, o, none⟩) h
  refine cols1_in n hn l r N0 B0 B1 B2 A len cap sa sb x hx k k0 k1 hl hr h1 h1r h2 h2r J Jx W (Nat.le_trans hN hW.size) hJ hY ((cell B0 0 (by omega)).trans c0) ((cell B1 0 (by omega)).trans c1) ((cell B2 0 (by omega)).trans c2) ?_ hJ0
  rcases hS with h | ⟨b, off, hA, hb, hc⟩
  · exact .inl h
  · refine .inr ⟨b, off, hA, hb, fun j hj => ?_⟩
    obtain ⟨q0, q1, l0, l1⟩ := hc j hj
    exact ⟨(cell b _ (by omega)).trans q0, (cell b _ (by omega)).trans q1, l0, l1⟩

set_option maxHeartbeats 1000000 in
theorem columns_in (n : Nat) (A : Option Addr) (len cap : Nat) (x k : Int) (w : World) :
    CallsIn Fence.wide n Try.prog 20 #[.slice A len cap, .int .u64 x, .int .i64 k] w fun e w' => e = .returned (.func (.func 27) #[] #[.pointer (some ⟨w.heap.size, 0, none⟩), .pointer (some ⟨w.heap.size + 1, 0, none⟩), .pointer (some ⟨w.heap.size + 1 + 1, 0, none⟩)]) ∧
      w' = ((w.alloc (.cells #[.slice A len cap] 30)).alloc (.cells #[.int .u64 x] 22)).alloc (.cells #[.int .i64 k] 3) := by
  refine callsIn_of_wp Try.func20 rfl trivial ?_ rfl
  simp only [Try.ntmps20, List.size_toArray, List.length_cons, List.length_nil, Nat.reduceAdd, Nat.reduceSub, Array.replicate_succ, Array.replicate_zero, List.push_toArray, List.append_toArray, List.nil_append, List.cons_append]
  gi_wp2
  go_ret
  exact ⟨rfl, rfl⟩

theorem info_int : (Try.prog.info? 3).map (fun i => (i.zero, i.size, i.bytes)) = some (some (.int .i64 0), 1, 8) := by kernel_rfl

/-- The row of columns, where those of pre have come. -/
def rowOf (c : Nat → Int) (len : Nat) (pre : List (Fin len)) : Array Value := ((List.range len).map fun j => Value.int .i64 (if pre.any (fun i => i.1 == j) then c j else 0)).toArray

theorem rowOf_nil (c : Nat → Int) (len : Nat) : rowOf c len [] = madeCells #[.int .i64 0] len := by
  unfold rowOf madeCells
  apply Array.ext
  · simp
  · intro i h1 h2
    simp [Nat.mod_one]
theorem rowOf_app (c : Nat → Int) (len : Nat) (pre : List (Fin len)) (i : Fin len) : rowOf c len (pre ++ [i]) = (rowOf c len pre).setIfInBounds i.1 (.int .i64 (c i.1)) := by
  unfold rowOf
  apply Array.ext
  · simp
  · intro j h1 h2
    by_cases h : i.1 = j
    · subst h
      simp
    · simp [h]
theorem rowOf_all (c : Nat → Int) (len : Nat) (ys : List (Fin len)) (h : ∀ i : Fin len, i ∈ ys) : rowOf c len ys = ((List.range len).map fun j => Value.int .i64 (c j)).toArray := by
  unfold rowOf
  congr 1
  refine List.map_congr_left fun j hj => ?_
  have hj' : j < len := List.mem_range.1 hj
  have : ys.any (fun i => i.1 == j) = true := List.any_eq_true.2 ⟨⟨j, hj'⟩, h _, by simp⟩
  rw [this]
  rfl
theorem rowOf_cell (c : Nat → Int) (len : Nat) (pre : List (Fin len)) (i : Fin len) : ∃ v, (rowOf c len pre)[i.1]? = some v := by
  unfold rowOf
  exact ⟨_, by simp only [List.getElem?_toArray, List.getElem?_map, List.getElem?_range i.2]; rfl⟩
theorem set_block {w : World} {b o : Nat} {cs : Array Value} {t : TypeId} (u : Value) (h : w.heap[b]? = some (.cells cs t)) : (w.setCell ⟨b, o, none⟩ u).heap[b]? = some (.cells (cs.setIfInBounds o u) t) := heap_setCell_same w b o cs t u h
theorem heap_five (w : World) (o0 o1 o2 o3 o4 : Obj) : ∃ W, W = ((((w.alloc o0).alloc o1).alloc o2).alloc o3).alloc o4 ∧ W.heap.size = w.heap.size + 5 ∧ W.heap[w.heap.size]? = some o0 ∧ W.heap[w.heap.size + 1]? = some o1 ∧ W.heap[w.heap.size + 1 + 1]? = some o2 ∧ W.heap[w.heap.size + 1 + 1 + 1]? = some o3 ∧ W.heap[w.heap.size + 1 + 1 + 1 + 1]? = some o4 ∧ Below w.heap.size w W := by
  refine ⟨_, rfl, by simp, ?_, ?_, ?_, ?_, ?_, (((((Below.refl _ w).alloc (Nat.le_refl _) _).alloc (by simp) _).alloc (by simp; omega) _).alloc (by simp; omega) _).alloc (by simp; omega) _⟩
  · rw [Below.heap_alloc _ _ _ (by simp <;> omega), Below.heap_alloc _ _ _ (by simp <;> omega), Below.heap_alloc _ _ _ (by simp <;> omega), Below.heap_alloc _ _ _ (by simp)]
    exact World.alloc_heap_new w _
  · rw [Below.heap_alloc _ _ _ (by simp <;> omega), Below.heap_alloc _ _ _ (by simp <;> omega), Below.heap_alloc _ _ _ (by simp)]
    have := World.alloc_heap_new (w.alloc o0) o1
    simpa using this
  · rw [Below.heap_alloc _ _ _ (by simp <;> omega), Below.heap_alloc _ _ _ (by simp)]
    have := World.alloc_heap_new ((w.alloc o0).alloc o1) o2
    simpa using this
  · rw [Below.heap_alloc _ _ _ (by simp)]
    have := World.alloc_heap_new (((w.alloc o0).alloc o1).alloc o2) o3
    simpa using this
  · have := World.alloc_heap_new ((((w.alloc o0).alloc o1).alloc o2).alloc o3) o4
    simpa using this
theorem box_at {W : World} {b : Nat} {v : Value} {t : TypeId} (h : W.heap[b]? = some (.cells #[v] t)) : W.cell? ⟨b, 0, none⟩ = some v := by simp [World.cell?, h]

set_option maxRecDepth 100000 in
set_option maxHeartbeats 2000000 in
theorem columnsR_in (n : Nat) (hn : 3 ≤ n) (A : Option Addr) (len cap : Nat) (sa sb : Nat → Nat) (x : Nat) (hx : x < 18446744073709551616) (k : Int) (k0 : -9223372036854775808 ≤ k) (k1 : k ≤ 9223372036854775807)
    (hl : len ≤ 1000000) (w : World) (hS : Seeds w w.heap.size A len sa sb) :
    CallsIn Fence.wide n Try.prog 15 #[.slice A len cap, .int .u64 x, .int .i64 k] w fun e w' => e = .returned (.slice (some ⟨w.heap.size, 0, none⟩) len len) ∧
      w'.heap[w.heap.size]? = some (.cells ((List.range len).map fun j => Value.int .i64 (col (sa j) (sb j) x k)).toArray 3) ∧ Below w.heap.size w w' := by
  have h1 : 1 ≤ n := by omega
  have hmk : ∀ W : World, (Instr.makeSlice 31 (.int .i64 (len : Int)) (.int .i64 (len : Int))).run Try.prog W = .ok (.slice (some ⟨W.heap.size, 0, none⟩) len len) (W.alloc (.cells (madeCells #[.int .i64 0] len) 3)) :=
    fun W => run_make_row' 31 3 (.int .i64 0) 8 Try.underlying31 info_int rfl .i64 .i64 len (by omega) (by omega) W
  obtain ⟨row, hrow⟩ : ∃ row, madeCells #[.int .i64 0] len = row := ⟨_, rfl⟩
  simp only [hrow] at hmk
  have HS := Lib.hid hS
  clear hS
  refine callsIn_of_wp_marks Try.func15 rfl trivial ?_ rfl
  simp only [Try.ntmps15, List.size_toArray, List.length_cons, List.length_nil, Nat.reduceAdd, Nat.reduceSub, Array.replicate_succ, Array.replicate_zero, List.push_toArray, List.append_toArray, List.nil_append, List.cons_append]
  gi_wp2_with (refine ⟨trivial, ?_⟩; gi_at_call 20; refine (columns_in (n - 1) A len cap _ _ _).mono ?_; rintro e w' ⟨rfl, rfl⟩)
  obtain ⟨W5, hW5, hsz, p0, p1, p2, p3, p4, hB5⟩ := heap_five w (.cells row 3) (.cells #[.slice (some ⟨w.heap.size, 0, none⟩) len len] 31) (.cells #[.slice A len cap] 30) (.cells #[.int .u64 x] 22) (.cells #[.int .i64 k] 3)
  rw [← hW5]
  have hS5 : Seeds W5 w.heap.size A len sa sb := by
    rcases HS.out with h | ⟨b, off, hA, hb, hc⟩
    · exact .inl h
    · refine .inr ⟨b, off, hA, hb, fun j hj => ?_⟩
      obtain ⟨q0, q1, l0, l1⟩ := hc j hj
      exact ⟨(hB5.cell (p := ⟨b, _, none⟩) hb).trans q0, (hB5.cell (p := ⟨b, _, none⟩) hb).trans q1, l0, l1⟩
  refine wpIn_rangeFunc_ownG rfl h1 (gf := 27) (lb := #[.pointer (some ⟨w.heap.size + 1 + 1, 0, none⟩), .pointer (some ⟨w.heap.size + 1 + 1 + 1, 0, none⟩), .pointer (some ⟨w.heap.size + 1 + 1 + 1 + 1, 0, none⟩)]) rfl trivial (enters_of Try.func27 (by kernel_rfl) rfl)
    (cols_stops (n - 1) (by omega) w.heap.size W5.heap.size _ _ _ A len cap sa sb x hx k k0 k1 hl (by omega) (by omega) (by omega) (by omega) (by omega) (by omega) W5 (Nat.le_refl _) (box_at p2) (box_at p3) (box_at p4) hS5) (fun h k => h.trans k) (Kq.put (Nat.le_refl _)) (Below.refl _ _) (fun _ => rfl)
    (fun pre W => Boxed W (w.heap.size + 1) 31 (.slice (some ⟨w.heap.size, 0, none⟩) len len) ∧ W.heap[w.heap.size]? = some (.cells (rowOf (fun j => col (sa j) (sb j) x k) len pre) 3) ∧ Below w.heap.size w W)
    (fun _ _ _ => False)
    (fun s W W' row hs hg hr => ⟨hs.1.kept hg (fun e => by have := (hr _ e.symm).1; omega), (hg.block _ (by have := hs.1.lt; omega) (fun e => by have := (hr _ e.symm).1; omega)).trans hs.2.1, hs.2.2.grown hg hs.2.2.size (fun j e => by have := (hr j e).1; omega)⟩)
    (fun _ _ _ _ _ hs _ _ => hs)
    ⟨p1, by rw [rowOf_nil, hrow]; exact p0, hB5⟩
    (fun i => { tmps := #[.slice A len cap, .int .u64 x, .int .i64 k, undef, undef, undef, .slice none 0 0, .pointer (some ⟨w.heap.size + 1, 0, none⟩), .int .i64 (i.1 : Int), .int .i64 (col (sa i.1) (sb i.1) x k),
          .slice A len cap, .int .i64 len, .slice (some ⟨w.heap.size, 0, none⟩) len len, .slice A len cap, .int .u64 x, .int .i64 k,
          .func (.func 27) #[] #[.pointer (some ⟨w.heap.size + 1 + 1, 0, none⟩), .pointer (some ⟨w.heap.size + 1 + 1 + 1, 0, none⟩), .pointer (some ⟨w.heap.size + 1 + 1 + 1 + 1, 0, none⟩)],
          .int .i64 (i.1 : Int), .int .i64 (col (sa i.1) (sb i.1) x k), undef, undef, undef, undef, undef], defers := [] }) ?assign ?body ?done ?stop
  case assign =>
    intro l i W K hK
    gi_wp2
    exact hK
  case body =>
    rintro l pre i W ⟨hv, hb, hB⟩ hlt
    have hc := hv.cell
    obtain ⟨u, hu⟩ := rowOf_cell (fun j => col (sa j) (sb j) x k) len pre i
    have hcell : W.cell? ⟨w.heap.size, i.1, none⟩ = some u := by simp [World.cell?, hb, hu]
    have hfr : W.frozen? ⟨w.heap.size, i.1, none⟩ = false := by simp [World.frozen?, hb]
    have hil := i.2
    obtain ⟨j, hj⟩ : ∃ j, i.1 = j := ⟨_, rfl⟩
    have hap := rowOf_app (fun j => col (sa j) (sb j) x k) len pre i
    simp only [hj] at hap ⊢
    obtain ⟨c, hcc⟩ : ∃ c, col (sa j) (sb j) x k = c := ⟨_, rfl⟩
    rw [hcc] at hap ⊢
    rw [hj] at hcell hfr hil
    have HB := Lib.hid hb
    have HV := Lib.hid hv
    have HAP := Lib.hid hap
    clear hb hv hlt hu hj hcc hap
    gi_wp2
    refine ⟨(KeepsOthers.setCell _ _ _).from _, ⟨by simp [World.setCell], fun b hb hr => Below.heap_setCell _ _ _ _ (fun e => hr (by simpa using e))⟩, ?_, ?_, hB.setCell (p := ⟨w.heap.size, j, none⟩) (Nat.le_refl _) _⟩
    · show (W.setCell _ _).heap[w.heap.size + 1]? = _
      rw [Below.heap_setCell _ _ _ _ (by simp)]
      exact HV.out
    · rw [HAP.out]
      exact set_block _ HB.out
  case done =>
    rintro D ys W hD hys ⟨hv, hb, hB⟩ hK
    have hc := hv.cell
    gi_wp2
    refine ⟨by simp, .inl ⟨_, _, rfl, run_takeDeferred hK, ?_⟩⟩
    refine ⟨_, results_tmp rfl _ _ _, rfl, ?_, hB.trans (belowK_b (w := w) (Nat.le_refl _) W D _ _ (by omega) hK rfl rfl)⟩
    rw [World.putObj_heap_other (by omega), hb, rowOf_all _ _ _ hys]
  case stop =>
    rintro D c pre W _ _ h _
    exact h.elim

/-- hash.Columns, in whatever memory. -/
theorem columns_any (A : Option Addr) (len cap : Nat) (sa sb : Nat → Nat) (x : Nat) (hx : x < 18446744073709551616) (k : Int) (k0 : -9223372036854775808 ≤ k) (k1 : k ≤ 9223372036854775807)
    (hl : len ≤ 1000000) (w : World) (hS : Seeds w w.heap.size A len sa sb) :
    Calls Try.prog 15 #[.slice A len cap, .int .u64 x, .int .i64 k] w fun e w' => e = .returned (.slice (some ⟨w.heap.size, 0, none⟩) len len) ∧
      w'.heap[w.heap.size]? = some (.cells ((List.range len).map fun j => Value.int .i64 (col (sa j) (sb j) x k)).toArray 3) ∧ Below w.heap.size w w' :=
  (callsIn_wide (n := 3)).1 (columnsR_in 3 (by omega) A len cap sa sb x hx k k0 k1 hl w hS)

end Go.Proofs.Ytgaapahhmpiibaa
