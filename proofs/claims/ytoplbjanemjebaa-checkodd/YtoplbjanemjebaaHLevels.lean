/- The contracts of hist.levels, its function that is ranged over, Total, each, other.has, Same. -/
import Derived.Shelf.Abstract
import Derived.Shelf.RegionOpen
import Derived.WalkKit
import Derived.OwnWalkIn
import Derived.TacticsInMore
import Derived.LoopNIn
import Derived.LoopIn
import Derived.Deep.OwnRows
import Derived.Test.YtoplbjanemjebaaRangeN
import Derived.Test.YtoplbjanemjebaaRowed5
import Derived.Test.YtoplbjanemjebaaHBase
namespace Go.Proofs.Ytoplbjanemjebaa
open Go.RowKit Go.Shelf Go.Proofs.Rw Go.Proofs.Lh Go.Proofs.Rn

attribute [local go_sem] Oper.semAt_some

/-- What is handed over in a round: a level's number, and its slice. -/
structure Yl where
  i : Nat
  A : Option Addr
  n : Nat
  c : Nat
abbrev encY (x : Yl) : Array Value := #[.int .i64 (x.i : Int), .slice x.A x.n x.c]

/-- Blocks below B stay as they were. -/
structure Kb (B : Nat) (W W' : World) : Prop where
  size : W.heap.size ≤ W'.heap.size
  block : ∀ b, b < B → W'.heap[b]? = W.heap[b]?
theorem Kb.refl (B : Nat) (W : World) : Kb B W W := ⟨Nat.le_refl _, fun _ _ => rfl⟩
theorem Kb.trans {B : Nat} {X Y Z : World} (h : Kb B X Y) (k : Kb B Y Z) : Kb B X Z := ⟨Nat.le_trans h.size k.size, fun b hb => (k.block b hb).trans (h.block b hb)⟩
theorem Kb.put {B : Nat} {w : World} (hB : B ≤ w.heap.size) (W : World) (l : Nat) (o o' : Obj) (hl : w.heap.size ≤ l) (_ : W.heap[l]? = some o) (_ : o.isCells = false) : Kb B W (W.putObj l o') :=
  ⟨by simp, fun b hb => World.putObj_heap_other (by omega)⟩

/-- The round k of 'levels': the level k. -/
def PxL (B : Nat) (ls : Lv) (k : Nat) (x : Yl) (W : World) : Prop := k < ls.length ∧ x.i = k ∧ x.n = (lev ls k).length ∧ Lies spL W B (.slice x.A x.n x.c) (lev ls k)
theorem PxL.put {B : Nat} {ls : Lv} {w : World} (hB : B ≤ w.heap.size) (k : Nat) (x : Yl) (W : World) (l : Nat) (o o' : Obj) (hl : w.heap.size ≤ l) (_ : W.heap[l]? = some o) (_ : o.isCells = false) (h : PxL B ls k x W) : PxL B ls k x (W.putObj l o') :=
  ⟨h.1, h.2.1, h.2.2.1, h.2.2.2.keep fun b hb => World.putObj_heap_other (by omega)⟩

set_option maxRecDepth 100000 in
set_option maxHeartbeats 1000000 in
theorem levels1_rd (n : Nat) (hn : 1 ≤ n) (B bx : Nat) (k g : Int) (ls : Lv) (hl : ls.length ≤ 1000000) (w : World) (hB : B ≤ w.heap.size) (A : Option Addr) (c : Nat) (h : Reads w B (.slice A ls.length c) ls)
    (hbx : w.heap[bx]? = some (.cells #[.int .i64 k, .int .i64 g, .slice A ls.length c] 32)) :
    SeqN Fence.wide n Try.prog 55 #[.pointer (some ⟨bx, 0, none⟩)] encY (PxL B ls) (Kb B) (fun m => m = ls.length) w := by
  intro l J Jx W hW hJ hJx hY hJ0
  have hL := h.below (hW.mono hB)
  have hcell : W.cell? ⟨bx, 2, none⟩ = some (.slice A ls.length c) := by
    have e := (hW.block bx (lt_of hbx)).trans hbx
    simp [World.cell?, e]
  have hbl : bx < W.heap.size := Nat.lt_of_lt_of_le (lt_of hbx) hW.size
  obtain ⟨N, hN⟩ : ∃ N, ls.length = N := ⟨_, rfl⟩
  rw [hN] at hcell hl hL ⊢
  have HN := Lib.hid hN
  have HJ := Lib.hid hJ
  have HY := Lib.hid hY
  have HL := Lib.hid hL
  have HW := Lib.hid hW
  clear hJ hJx hY h hL hbx hN hW
  refine callsIn_of_wp Try.func55 rfl trivial ?_ rfl
  simp only [Try.ntmps55, List.size_toArray, List.length_cons, List.length_nil, Nat.reduceAdd, Nat.reduceSub, Array.replicate_succ, Array.replicate_zero, List.push_toArray, List.append_toArray, List.nil_append, List.cons_append]
  gi_wp2
  gi_loopw [8] (fun p wr => ∃ j : Nat, p = .int .i64 j ∧ j ≤ N ∧ J j wr ∧ Kb B W wr) (fun p _ => N - (intOf p).toNat)
  case atStart => exact ⟨0, rfl, Nat.zero_le _, hJ0, Kb.refl _ _⟩
  case round =>
    obtain ⟨j, rfl, hle, hJs, hK⟩ := hrel
    have hsz : B ≤ wr.heap.size := Nat.le_trans hB (Nat.le_trans HW.out.size hK.size)
    by_cases hlt : j < N
    · have hjl : j < ls.length := by rw [HN.out]; exact hlt
      have hLr : Reads wr B (.slice A N c) ls := HL.out.keep hK.block
      obtain ⟨b, off, rfl, hb, -, hc⟩ := hLr.at (by omega)
      obtain ⟨Ai, ci, q0, -, -, hLi⟩ := hc j hjl
      have hbs : b < wr.heap.size := by omega
      obtain ⟨fn, tmps, assign, body, hy, hR⟩ := HY.out j ⟨j, Ai, ls[j].length, ci⟩ wr hJs ⟨hjl, rfl, by rw [lev_lt hjl], by rw [lev_lt hjl]; exact hLi⟩
      generalize ls[j].length = m at *
      dsimp only [encY] at hy
      have HKK := Lib.hid hK
      clear hc hLi hLr hcell hJ0 hK
      gi_wp2
      refine hR.mono ?_
      rintro e W3 (⟨rfl, hJ3, hk3⟩ | ⟨rfl, hJx3⟩)
      · gi_wp2
        go_roundw
        case rel => exact ⟨j + 1, by go_num, hlt, hJ3, HKK.out.trans hk3⟩
        case measure => simp [intOf]; omega
      · gi_wp2
        refine bodyPost_ret (results_none rfl _ _ _) rfl ?_
        exact ⟨⟨_, rfl⟩, .inr ⟨_, hJx3⟩⟩
    · have e : j = N := by omega
      subst e
      gi_wp2
      refine bodyPost_end (results_none rfl _ _ _) rfl ?_
      exact ⟨⟨_, rfl⟩, .inl ⟨j, rfl, hJs⟩⟩

theorem levels1_in (n : Nat) (hn : 1 ≤ n) (B bx : Nat) (k g : Int) (ls : Lv) (hl : ls.length ≤ 1000000) (w : World) (hB : B ≤ w.heap.size) (A : Option Addr) (c : Nat) (h : Levs w B (.slice A ls.length c) ls)
    (hbx : w.heap[bx]? = some (.cells #[.int .i64 k, .int .i64 g, .slice A ls.length c] 32)) :
    SeqN Fence.wide n Try.prog 55 #[.pointer (some ⟨bx, 0, none⟩)] encY (PxL B ls) (Kb B) (fun m => m = ls.length) w := levels1_rd n hn B bx k g ls hl w hB A c h.reads hbx

theorem levels_in (n : Nat) (k g : Int) (s : Value) (w : World) :
    CallsIn Fence.wide n Try.prog 52 #[hv k g s] w fun e w' => e = .returned (.func (.func 55) #[] #[.pointer (some ⟨w.heap.size, 0, none⟩)]) ∧
      w' = w.alloc (.cells #[.int .i64 k, .int .i64 g, s] 32) := by
  refine callsIn_of_wp Try.func52 rfl trivial ?_ rfl
  simp only [Try.ntmps52, List.size_toArray, List.length_cons, List.length_nil, Nat.reduceAdd, Nat.reduceSub, Array.replicate_succ, Array.replicate_zero, List.push_toArray, List.append_toArray, List.nil_append, List.cons_append]
  gi_wp2
  go_ret
  exact ⟨rfl, rfl⟩

theorem heap_three (w : World) (o0 o1 o2 : Obj) : ∃ W, W = ((w.alloc o0).alloc o1).alloc o2 ∧ W.heap.size = w.heap.size + 3 ∧ W.heap[w.heap.size]? = some o0 ∧ W.heap[w.heap.size + 1]? = some o1 ∧ W.heap[w.heap.size + 1 + 1]? = some o2 ∧ Below w.heap.size w W := by
  refine ⟨_, rfl, by simp, ?_, ?_, ?_, (((Below.refl _ w).alloc (Nat.le_refl _) _).alloc (by simp) _).alloc (by simp; omega) _⟩
  · rw [Below.heap_alloc _ _ _ (by simp <;> omega), Below.heap_alloc _ _ _ (by simp)]
    exact World.alloc_heap_new w _
  · rw [Below.heap_alloc _ _ _ (by simp)]
    have := World.alloc_heap_new (w.alloc o0) o1
    simpa using this
  · have := World.alloc_heap_new ((w.alloc o0).alloc o1) o2
    simpa using this

theorem keeps_drew {B : Nat} {W W' : World} (h : KeepsFrom B W W') : KeepsFrom B W W'.drew := ⟨h.size, h.same⟩
theorem wsum {s m j d : Nat} (hd : m * 2 ^ j = d) (h : s + d ≤ 4611686018427387904) : IntKind.u64.wrap ((s : Int) + IntKind.u64.wrap (IntKind.u64.wrap (m : Int) * 2 ^ j)) = ((s + d : Nat) : Int) := by
  have h1 : 1 ≤ 2 ^ j := Nat.one_le_two_pow
  have h2 : m ≤ d := by rw [← hd]; exact Nat.le_mul_of_pos_right m (by omega)
  have e : (m : Int) * 2 ^ j = (d : Int) := by rw [← hd]; simp
  rw [IntWalk.u64_in (m : Int) ⟨by omega, by omega⟩, e, IntWalk.u64_in (d : Int) ⟨by omega, by omega⟩, IntWalk.u64_in _ ⟨by omega, by omega⟩]
  simp

set_option maxRecDepth 100000 in
set_option maxHeartbeats 2000000 in
theorem totalR_in (n : Nat) (hn : 3 ≤ n) (k g : Int) (ls : Lv) (hl : ls.length ≤ 60) (ht : tot ls ≤ 4611686018427387904) (w : World) (A : Option Addr) (c : Nat) (h : Reads w w.heap.size (.slice A ls.length c) ls) :
    CallsIn Fence.wide n Try.prog 45 #[hv k g (.slice A ls.length c)] w fun e w' => e = .returned (.int .u64 (tot ls : Int)) ∧ Below w.heap.size w w' := by
  have h1 : 1 ≤ n := by omega
  have HL := Lib.hid h
  clear h
  obtain ⟨N, hN⟩ : ∃ N, ls.length = N := ⟨_, rfl⟩
  rw [hN] at hl ⊢
  have HN := Lib.hid hN
  clear hN
  refine callsIn_of_wp_marks Try.func45 rfl trivial ?_ rfl
  simp only [Try.ntmps45, List.size_toArray, List.length_cons, List.length_nil, Nat.reduceAdd, Nat.reduceSub, Array.replicate_succ, Array.replicate_zero, List.push_toArray, List.append_toArray, List.nil_append, List.cons_append]
  gi_wp2_with (refine ⟨trivial, ?_⟩; gi_at_call 52; refine (levels_in (n - 1) k g _ _).mono ?_; rintro e w' ⟨rfl, rfl⟩)
  obtain ⟨W3, hW3, hsz, p0, p1, p2, hB3⟩ := heap_three w (.cells #[.int .i64 k, .int .i64 g, .slice A N c] 32) (.cells #[.int .u64 0] 26) (.cells #[.int .i64 k, .int .i64 g, .slice A N c] 32)
  rw [← hW3]
  have hL3 : Reads W3 w.heap.size (.slice A ls.length c) ls := HL.out.below hB3
  have seq := levels1_rd (n - 1) (by omega) w.heap.size (w.heap.size + 1 + 1) k g ls (by have := HN.out; omega) W3 (by omega) A c hL3 (by rw [HN.out]; exact p2)
  have hlev := HN.out
  refine range_n rfl h1 (gf := 55) (lb := #[.pointer (some ⟨w.heap.size + 1 + 1, 0, none⟩)]) rfl trivial (enters_of Try.func55 (by kernel_rfl) rfl)
    seq (fun h k => h.trans k) (Kb.put (by omega)) (PxL.put (by omega)) (Below.refl _ _) (fun _ => rfl)
    (fun j W => Boxed W (w.heap.size + 1) 26 (.int .u64 (totFrom 0 (ls.take j) : Nat)) ∧ Below w.heap.size w W)
    (fun _ _ _ => False)
    (fun j W W' row hs hg hr => ⟨hs.1.kept hg (fun e => by have := (hr _ e.symm).1; omega), hs.2.grown hg hs.2.size (fun j e => by have := (hr j e).1; omega)⟩)
    (fun _ _ _ _ _ hs _ _ => hs)
    ⟨p1, hB3⟩
    (fun x => { tmps := #[hv k g (.slice A N c), .pointer (some ⟨w.heap.size, 0, none⟩), .int .u64 0, .pointer (some ⟨w.heap.size + 1, 0, none⟩), .int .i64 (x.i : Int), .slice x.A x.n x.c, hv k g (.slice A N c),
      .func (.func 55) #[] #[.pointer (some ⟨w.heap.size + 1 + 1, 0, none⟩)], .int .i64 (x.i : Int), .slice x.A x.n x.c, undef, undef, undef, undef, undef, undef, undef, undef], defers := [] }) ?assign ?body ?done ?stop
  case assign =>
    intro l x W K hK
    gi_wp2
    exact hK
  case body =>
    rintro l j x W ⟨hv, hB⟩ ⟨hj, hx1, hx2, _⟩
    have hstep := totFrom_take hj
    have hle := totFrom_le ls (j + 1)
    rw [← lev_lt hj, ← hx2] at hstep
    rw [hx1]
    obtain ⟨s, hs⟩ : ∃ s, totFrom 0 (ls.take j) = s := ⟨_, rfl⟩
    obtain ⟨d, hd⟩ : ∃ d, x.n * 2 ^ j = d := ⟨_, rfl⟩
    rw [hs, hd] at hstep
    rw [hs] at hv
    generalize x.n = m at *
    generalize x.A = Ax at *
    generalize x.c = cx at *
    have hc := hv.cell
    have hf := hv.frozen
    have hj60 : j < 60 := by omega
    have hsd : s + d ≤ 4611686018427387904 := by omega
    have HV := Lib.hid hv
    have HST := Lib.hid hstep
    have HD := Lib.hid hd
    clear hv hstep hle hs hx1 hx2 hd seq p0 p1 p2 hL3 hj
    have hval := wsum HD.out hsd
    rw [← HST.out] at hval
    have HVAL := Lib.hid hval
    clear hval
    gi_wp2
    gi_region
    all_goals
      gi_wp2
      refine ⟨keeps_drew ((KeepsOthers.setCell _ _ _).from _), ⟨by simp [World.setCell, World.drew], fun b hb => Below.heap_setCell _ _ _ _ (by simp; omega)⟩, ?_, (hB.setCell (p := ⟨w.heap.size + 1, 0, none⟩) (by simp) _).drew⟩
      rw [HVAL.out]
      exact HV.out.set _
  case done =>
    rintro D _ W hD rfl ⟨hv, hB⟩ hK
    rw [List.take_length, tot_eq] at hv
    have hc := hv.cell
    gi_wp2
    refine ⟨by simp, .inl ⟨_, _, rfl, run_takeDeferred hK, ?_⟩⟩
    exact ⟨_, results_tmp rfl _ _ _, rfl, hB.trans (belowK_b (w := w) (Nat.le_refl _) W D _ _ (by omega) hK rfl rfl)⟩
  case stop =>
    rintro D c pre W _ h _
    exact h.elim

theorem total_rd (k g : Int) (ls : Lv) (hl : ls.length ≤ 60) (ht : tot ls ≤ 4611686018427387904) (w : World) (A : Option Addr) (c : Nat) (h : Reads w w.heap.size (.slice A ls.length c) ls) :
    Calls Try.prog 45 #[hv k g (.slice A ls.length c)] w fun e w' => e = .returned (.int .u64 (tot ls : Int)) ∧ Below w.heap.size w w' :=
  (callsIn_wide (n := 3)).1 (totalR_in 3 (by omega) k g ls hl ht w A c h)
theorem total_any (k g : Int) (ls : Lv) (hl : ls.length ≤ 60) (ht : tot ls ≤ 4611686018427387904) (w : World) (A : Option Addr) (c : Nat) (h : Levs w w.heap.size (.slice A ls.length c) ls) :
    Calls Try.prog 45 #[hv k g (.slice A ls.length c)] w fun e w' => e = .returned (.int .u64 (tot ls : Int)) ∧ Below w.heap.size w w' :=
  total_rd k g ls hl ht w A c h.reads

end Go.Proofs.Ytoplbjanemjebaa
