/- The contracts of hist.levels, its function that is ranged over, Total, each, other.has, Same. · The contracts of hist's each, other.has and Same. · The contract of hist.Same. · The contracts of skylightref06's small functions: Total, Last, at. -/
import Derived.Shelf.Abstract
import Derived.Shelf.RegionOpen
import Derived.WalkKit
import Derived.OwnWalkIn
import Derived.TacticsInMore
import Derived.LoopNIn
import Derived.LoopIn
import Derived.Deep.OwnRows
import Derived.Test.YtpdhkpgnajfobaaJ01
import Derived.Test.YtpdhkpgnajfobaaJ02
import Derived.Test.YtpdhkpgnajfobaaJ04
section
/- The contracts of hist.levels, its function that is ranged over, Total, each, other.has, Same. -/
namespace Go.Proofs.Ytpdhkpgnajfobaa
open Go.RowKit Go.Shelf Go.Proofs.Rw Go.Proofs.Lh Go.Proofs.Rn

attribute [local go_sem] Oper.semAt_some

/-- What is handed over in a round: a level's number, and its slice. -/
structure Yl where
  i : Nat
  A : Option Addr
  n : Nat
  c : Nat
abbrev encY (x : Yl) : Array Value := #[.int .i64 (x.i : Int), .slice x.A x.n x.c]

/-- Blocks below B stay as they were. -/
structure Kb (B : Nat) (W W' : World) : Prop where
  size : W.heap.size ≤ W'.heap.size
  block : ∀ b, b < B → W'.heap[b]? = W.heap[b]?
theorem Kb.refl (B : Nat) (W : World) : Kb B W W := ⟨Nat.le_refl _, fun _ _ => rfl⟩
theorem Kb.trans {B : Nat} {X Y Z : World} (h : Kb B X Y) (k : Kb B Y Z) : Kb B X Z := ⟨Nat.le_trans h.size k.size, fun b hb => (k.block b hb).trans (h.block b hb)⟩
theorem Kb.put {B : Nat} {w : World} (hB : B ≤ w.heap.size) (W : World) (l : Nat) (o o' : Obj) (hl : w.heap.size ≤ l) (_ : W.heap[l]? = some o) (_ : o.isCells = false) : Kb B W (W.putObj l o') :=
  ⟨by simp, fun b hb => World.putObj_heap_other (by omega)⟩

/-- The round k of 'levels': the level k. -/
def PxL (B : Nat) (ls : Lv) (k : Nat) (x : Yl) (W : World) : Prop := k < ls.length ∧ x.i = k ∧ x.n = (lev ls k).length ∧ Lies spL W B (.slice x.A x.n x.c) (lev ls k)
theorem PxL.put {B : Nat} {ls : Lv} {w : World} (hB : B ≤ w.heap.size) (k : Nat) (x : Yl) (W : World) (l : Nat) (o o' : Obj) (hl : w.heap.size ≤ l) (_ : W.heap[l]? = some o) (_ : o.isCells = false) (h : PxL B ls k x W) : PxL B ls k x (W.putObj l o') :=
  ⟨h.1, h.2.1, h.2.2.1, h.2.2.2.keep fun b hb => World.putObj_heap_other (by omega)⟩

set_option maxRecDepth 100000 in
set_option maxHeartbeats 1000000 in
theorem levels1_rd (n : Nat) (hn : 1 ≤ n) (B bx : Nat) (k g : Int) (ls : Lv) (hl : ls.length ≤ 1000000) (w : World) (hB : B ≤ w.heap.size) (A : Option Addr) (c : Nat) (h : Reads w B (.slice A ls.length c) ls)
    (hbx : w.heap[bx]? = some (.cells #[.int .i64 k, .int .i64 g, .slice A ls.length c] 32)) :
    SeqN Fence.wide n Try.prog 62 #[.pointer (some ⟨bx, 0, none⟩)] encY (PxL B ls) (Kb B) (fun m => m = ls.length) w := by
  intro l J Jx W hW hJ hJx hY hJ0
  have hL := h.below (hW.mono hB)
  have hcell : W.cell? ⟨bx, 2, none⟩ = some (.slice A ls.length c) := by
    have e := (hW.block bx (lt_of hbx)).trans hbx
    simp [World.cell?, e]
  have hbl : bx < W.heap.size := Nat.lt_of_lt_of_le (lt_of hbx) hW.size
  obtain ⟨N, hN⟩ : ∃ N, ls.length = N := ⟨_, rfl⟩
  rw [hN] at hcell hl hL ⊢
  have HN := Lib.hid hN
  have HJ := Lib.hid hJ
  have HY := Lib.hid hY
  have HL := Lib.hid hL
  have HW := Lib.hid hW
  clear hJ hJx hY h hL hbx hN hW
  refine callsIn_of_wp Try.func62 rfl trivial ?_ rfl
  simp only [Try.ntmps62, List.size_toArray, List.length_cons, List.length_nil, Nat.reduceAdd, Nat.reduceSub, Array.replicate_succ, Array.replicate_zero, List.push_toArray, List.append_toArray, List.nil_append, List.cons_append]
  gi_wp2
  gi_loopw [8] (fun p wr => ∃ j : Nat, p = .int .i64 j ∧ j ≤ N ∧ J j wr ∧ Kb B W wr) (fun p _ => N - (intOf p).toNat)
  case atStart => exact ⟨0, rfl, Nat.zero_le _, hJ0, Kb.refl _ _⟩
  case round =>
    obtain ⟨j, rfl, hle, hJs, hK⟩ := hrel
    have hsz : B ≤ wr.heap.size := Nat.le_trans hB (Nat.le_trans HW.out.size hK.size)
    by_cases hlt : j < N
    · have hjl : j < ls.length := by rw [HN.out]; exact hlt
      have hLr : Reads wr B (.slice A N c) ls := HL.out.keep hK.block
      obtain ⟨b, off, rfl, hb, -, hc⟩ := hLr.at (by omega)
      obtain ⟨Ai, ci, q0, -, -, hLi⟩ := hc j hjl
      have hbs : b < wr.heap.size := by omega
      obtain ⟨fn, tmps, assign, body, hy, hR⟩ := HY.out j ⟨j, Ai, ls[j].length, ci⟩ wr hJs ⟨hjl, rfl, by rw [lev_lt hjl], by rw [lev_lt hjl]; exact hLi⟩
      generalize ls[j].length = m at *
      dsimp only [encY] at hy
      have HKK := Lib.hid hK
      clear hc hLi hLr hcell hJ0 hK
      gi_wp2
      refine hR.mono ?_
      rintro e W3 (⟨rfl, hJ3, hk3⟩ | ⟨rfl, hJx3⟩)
      · gi_wp2
        go_roundw
        case rel => exact ⟨j + 1, by go_num, hlt, hJ3, HKK.out.trans hk3⟩
        case measure => simp [intOf]; omega
      · gi_wp2
        refine bodyPost_ret (results_none rfl _ _ _) rfl ?_
        exact ⟨⟨_, rfl⟩, .inr ⟨_, hJx3⟩⟩
    · have e : j = N := by omega
      subst e
      gi_wp2
      refine bodyPost_end (results_none rfl _ _ _) rfl ?_
      exact ⟨⟨_, rfl⟩, .inl ⟨j, rfl, hJs⟩⟩

theorem levels1_in (n : Nat) (hn : 1 ≤ n) (B bx : Nat) (k g : Int) (ls : Lv) (hl : ls.length ≤ 1000000) (w : World) (hB : B ≤ w.heap.size) (A : Option Addr) (c : Nat) (h : Levs w B (.slice A ls.length c) ls)
    (hbx : w.heap[bx]? = some (.cells #[.int .i64 k, .int .i64 g, .slice A ls.length c] 32)) :
    SeqN Fence.wide n Try.prog 62 #[.pointer (some ⟨bx, 0, none⟩)] encY (PxL B ls) (Kb B) (fun m => m = ls.length) w := levels1_rd n hn B bx k g ls hl w hB A c h.reads hbx

theorem levels_in (n : Nat) (k g : Int) (s : Value) (w : World) :
    CallsIn Fence.wide n Try.prog 33 #[hv k g s] w fun e w' => e = .returned (.func (.func 62) #[] #[.pointer (some ⟨w.heap.size, 0, none⟩)]) ∧
      w' = w.alloc (.cells #[.int .i64 k, .int .i64 g, s] 32) := by
  refine callsIn_of_wp Try.func33 rfl trivial ?_ rfl
  simp only [Try.ntmps33, List.size_toArray, List.length_cons, List.length_nil, Nat.reduceAdd, Nat.reduceSub, Array.replicate_succ, Array.replicate_zero, List.push_toArray, List.append_toArray, List.nil_append, List.cons_append]
  gi_wp2
  go_ret
  exact ⟨rfl, rfl⟩

theorem heap_three (w : World) (o0 o1 o2 : Obj) : ∃ W, W = ((w.alloc o0).alloc o1).alloc o2 ∧ W.heap.size = w.heap.size + 3 ∧ W.heap[w.heap.size]? = some o0 ∧ W.heap[w.heap.size + 1]? = some o1 ∧ W.heap[w.heap.size + 1 + 1]? = some o2 ∧ Below w.heap.size w W := by
  refine ⟨_, rfl, by simp, ?_, ?_, ?_, (((Below.refl _ w).alloc (Nat.le_refl _) _).alloc (by simp) _).alloc (by simp; omega) _⟩
  · rw [Below.heap_alloc _ _ _ (by simp <;> omega), Below.heap_alloc _ _ _ (by simp)]
    exact World.alloc_heap_new w _
  · rw [Below.heap_alloc _ _ _ (by simp)]
    have := World.alloc_heap_new (w.alloc o0) o1
    simpa using this
  · have := World.alloc_heap_new ((w.alloc o0).alloc o1) o2
    simpa using this

theorem keeps_drew {B : Nat} {W W' : World} (h : KeepsFrom B W W') : KeepsFrom B W W'.drew := ⟨h.size, h.same⟩
theorem wsum {s m j d : Nat} (hd : m * 2 ^ j = d) (h : s + d ≤ 4611686018427387904) : IntKind.u64.wrap ((s : Int) + IntKind.u64.wrap (IntKind.u64.wrap (m : Int) * 2 ^ j)) = ((s + d : Nat) : Int) := by
  have h1 : 1 ≤ 2 ^ j := Nat.one_le_two_pow
  have h2 : m ≤ d := by rw [← hd]; exact Nat.le_mul_of_pos_right m (by omega)
  have e : (m : Int) * 2 ^ j = (d : Int) := by rw [← hd]; simp
  rw [IntWalk.u64_in (m : Int) ⟨by omega, by omega⟩, e, IntWalk.u64_in (d : Int) ⟨by omega, by omega⟩, IntWalk.u64_in _ ⟨by omega, by omega⟩]
  simp

set_option maxRecDepth 100000 in
set_option maxHeartbeats 2000000 in
theorem totalR_in (n : Nat) (hn : 3 ≤ n) (k g : Int) (ls : Lv) (hl : ls.length ≤ 60) (ht : tot ls ≤ 4611686018427387904) (w : World) (A : Option Addr) (c : Nat) (h : Reads w w.heap.size (.slice A ls.length c) ls) :
    CallsIn Fence.wide n Try.prog 14 #[hv k g (.slice A ls.length c)] w fun e w' => e = .returned (.int .u64 (tot ls : Int)) ∧ Below w.heap.size w w' := by
  have h1 : 1 ≤ n := by omega
  have HL := Lib.hid h
  clear h
  obtain ⟨N, hN⟩ : ∃ N, ls.length = N := ⟨_, rfl⟩
  rw [hN] at hl ⊢
  have HN := Lib.hid hN
  clear hN
  refine callsIn_of_wp_marks Try.func14 rfl trivial ?_ rfl
  simp only [Try.ntmps14, List.size_toArray, List.length_cons, List.length_nil, Nat.reduceAdd, Nat.reduceSub, Array.replicate_succ, Array.replicate_zero, List.push_toArray, List.append_toArray, List.nil_append, List.cons_append]
  gi_wp2_with (refine ⟨trivial, ?_⟩; gi_at_call 33; refine (levels_in (n - 1) k g _ _).mono ?_; rintro e w' ⟨rfl, rfl⟩)
  obtain ⟨W3, hW3, hsz, p0, p1, p2, hB3⟩ := heap_three w (.cells #[.int .i64 k, .int .i64 g, .slice A N c] 32) (.cells #[.int .u64 0] 41) (.cells #[.int .i64 k, .int .i64 g, .slice A N c] 32)
  rw [← hW3]
  have hL3 : Reads W3 w.heap.size (.slice A ls.length c) ls := HL.out.below hB3
  have seq := levels1_rd (n - 1) (by omega) w.heap.size (w.heap.size + 1 + 1) k g ls (by have := HN.out; omega) W3 (by omega) A c hL3 (by rw [HN.out]; exact p2)
  have hlev := HN.out
  refine range_n rfl h1 (gf := 62) (lb := #[.pointer (some ⟨w.heap.size + 1 + 1, 0, none⟩)]) rfl trivial (enters_of Try.func62 (by kernel_rfl) rfl)
    seq (fun h k => h.trans k) (Kb.put (by omega)) (PxL.put (by omega)) (Below.refl _ _) (fun _ => rfl)
    (fun j W => Boxed W (w.heap.size + 1) 41 (.int .u64 (totFrom 0 (ls.take j) : Nat)) ∧ Below w.heap.size w W)
    (fun _ _ _ => False)
    (fun j W W' row hs hg hr => ⟨hs.1.kept hg (fun e => by have := (hr _ e.symm).1; omega), hs.2.grown hg hs.2.size (fun j e => by have := (hr j e).1; omega)⟩)
    (fun _ _ _ _ _ hs _ _ => hs)
    ⟨p1, hB3⟩
    (fun x => { tmps := #[hv k g (.slice A N c), .pointer (some ⟨w.heap.size, 0, none⟩), .int .u64 0, .pointer (some ⟨w.heap.size + 1, 0, none⟩), .int .i64 (x.i : Int), .slice x.A x.n x.c, hv k g (.slice A N c),
      .func (.func 62) #[] #[.pointer (some ⟨w.heap.size + 1 + 1, 0, none⟩)], .int .i64 (x.i : Int), .slice x.A x.n x.c, undef, undef, undef, undef, undef, undef, undef, undef], defers := [] }) ?assign ?body ?done ?stop
  case assign =>
    intro l x W K hK
    gi_wp2
    exact hK
  case body =>
    rintro l j x W ⟨hv, hB⟩ ⟨hj, hx1, hx2, _⟩
    have hstep := totFrom_take hj
    have hle := totFrom_le ls (j + 1)
    rw [← lev_lt hj, ← hx2] at hstep
    rw [hx1]
    obtain ⟨s, hs⟩ : ∃ s, totFrom 0 (ls.take j) = s := ⟨_, rfl⟩
    obtain ⟨d, hd⟩ : ∃ d, x.n * 2 ^ j = d := ⟨_, rfl⟩
    rw [hs, hd] at hstep
    rw [hs] at hv
    generalize x.n = m at *
    generalize x.A = Ax at *
    generalize x.c = cx at *
    have hc := hv.cell
    have hf := hv.frozen
    have hj60 : j < 60 := by omega
    have hsd : s + d ≤ 4611686018427387904 := by omega
    have HV := Lib.hid hv
    have HST := Lib.hid hstep
    have HD := Lib.hid hd
    clear hv hstep hle hs hx1 hx2 hd seq p0 p1 p2 hL3 hj
    have hval := wsum HD.out hsd
    rw [← HST.out] at hval
    have HVAL := Lib.hid hval
    clear hval
    gi_wp2
    gi_region
    all_goals
      gi_wp2
      refine ⟨keeps_drew ((KeepsOthers.setCell _ _ _).from _), ⟨by simp [World.setCell, World.drew], fun b hb => Below.heap_setCell _ _ _ _ (by simp; omega)⟩, ?_, (hB.setCell (p := ⟨w.heap.size + 1, 0, none⟩) (by simp) _).drew⟩
      rw [HVAL.out]
      exact HV.out.set _
  case done =>
    rintro D _ W hD rfl ⟨hv, hB⟩ hK
    rw [List.take_length, tot_eq] at hv
    have hc := hv.cell
    gi_wp2
    refine ⟨by simp, .inl ⟨_, _, rfl, run_takeDeferred hK, ?_⟩⟩
    exact ⟨_, results_tmp rfl _ _ _, rfl, hB.trans (belowK_b (w := w) (Nat.le_refl _) W D _ _ (by omega) hK rfl rfl)⟩
  case stop =>
    rintro D c pre W _ h _
    exact h.elim

theorem total_rd (k g : Int) (ls : Lv) (hl : ls.length ≤ 60) (ht : tot ls ≤ 4611686018427387904) (w : World) (A : Option Addr) (c : Nat) (h : Reads w w.heap.size (.slice A ls.length c) ls) :
    Calls Try.prog 14 #[hv k g (.slice A ls.length c)] w fun e w' => e = .returned (.int .u64 (tot ls : Int)) ∧ Below w.heap.size w w' :=
  (callsIn_wide (n := 3)).1 (totalR_in 3 (by omega) k g ls hl ht w A c h)
theorem total_any (k g : Int) (ls : Lv) (hl : ls.length ≤ 60) (ht : tot ls ≤ 4611686018427387904) (w : World) (A : Option Addr) (c : Nat) (h : Levs w w.heap.size (.slice A ls.length c) ls) :
    Calls Try.prog 14 #[hv k g (.slice A ls.length c)] w fun e w' => e = .returned (.int .u64 (tot ls : Int)) ∧ Below w.heap.size w w' :=
  total_rd k g ls hl ht w A c h.reads

end Go.Proofs.Ytpdhkpgnajfobaa
end
section
/- The contracts of hist's each, other.has and Same. -/
namespace Go.Proofs.Ytpdhkpgnajfobaa
open Go.RowKit Go.Shelf Go.Proofs.Rw Go.Proofs.Lh Go.Proofs.Rn

attribute [local go_sem] Oper.semAt_some

theorem has_any (k g : Int) (ls : Lv) (i : Nat) (xs : List Sp) (hl : (lev ls i).length ≤ 10000000) (w : World) (A A2 : Option Addr) (c c2 : Nat) (h : Levs w w.heap.size (.slice A ls.length c) ls) (h2 : Lies spL w w.heap.size (.slice A2 xs.length c2) xs) :
    Calls Try.prog 35 #[hv k g (.slice A ls.length c), .int .i64 (i : Int), .slice A2 xs.length c2] w fun e w' => e = .returned (.bool (decide (lev ls i = xs))) ∧ Below w.heap.size w w' := by
  have hat := at_any k g ls i (w.alloc (.cells #[.int .i64 k, .int .i64 g, .slice A ls.length c] 83)) w.heap.size (by simp) A c (h.alloc (Nat.le_refl _) _)
  have HAT := Lib.hid hat
  have H2 := Lib.hid h2
  clear hat h h2
  go_enter Try.func35, Try.ntmps35
  go_wp2_with (first
    | (go_at_call 64; refine HAT.out.mono ?_; rintro e w1 ⟨A', c', rfl, hL, hb⟩; have HB := Lib.hid (((Below.refl _ w).alloc (Nat.le_refl _) _).trans (hb.mono (by simp))); have HL := Lib.hid ((hL.below (hb.mono (by simp))).mono (show w.heap.size ≤ w1.heap.size from HB.out.size)); clear hL hb)
    | (go_at_call 63; refine (equal_any _ _ hl w1 w1.heap.size (Nat.le_refl _) _ _ _ _ HL.out (H2.out.grow HB.out)).mono ?_; rintro e w2 ⟨rfl, hb2⟩; have HB2 := Lib.hid hb2; clear hb2))
  go_ret
  exact ⟨rfl, thn HB.out HB2.out⟩

theorem heap_four (w : World) (o0 o1 o2 o3 : Obj) : ∃ W, W = (((w.alloc o0).alloc o1).alloc o2).alloc o3 ∧ W.heap.size = w.heap.size + 4 ∧ W.heap[w.heap.size]? = some o0 ∧ W.heap[w.heap.size + 1]? = some o1 ∧ W.heap[w.heap.size + 1 + 1]? = some o2 ∧ W.heap[w.heap.size + 1 + 1 + 1]? = some o3 ∧ Below w.heap.size w W := by
  obtain ⟨W3, rfl, hsz, p0, p1, p2, hb⟩ := heap_three w o0 o1 o2
  refine ⟨_, rfl, by simp [hsz], ?_, ?_, ?_, ?_, hb.alloc (by omega) _⟩
  · rw [Below.heap_alloc _ _ _ (by omega)]; exact p0
  · rw [Below.heap_alloc _ _ _ (by omega)]; exact p1
  · rw [Below.heap_alloc _ _ _ (by omega)]; exact p2
  · have := World.alloc_heap_new (((w.alloc o0).alloc o1).alloc o2) o3
    rw [hsz] at this
    exact this

/-- What holds of a call holds of it within a round. -/
theorem callsIn_round {F : Fence} {n : Nat} {P : Program} {f : FuncId} {args : Array Value} {w : World} {R : Ending → World → Prop} (l : Nat) (h : CallsIn F n P f args w R) : CallsIn (F.inRound l) n P f args w R := h

/-- Whether all levels of one are those of the other. -/
def allSame (la lb : Lv) : Bool := decide (∀ i, i < la.length → lev lb i = lev la i)
theorem allSame_eq {la lb : Lv} (h : la.length = lb.length) : allSame la lb = decide (la = lb) := by
  unfold allSame
  rw [decide_eq_decide]
  constructor
  · intro hh
    refine List.ext_getElem h fun i h1 h2 => ?_
    have := hh i h1
    rw [lev_lt h1, lev_lt h2] at this
    exact this.symm
  · rintro rfl i _
    rfl

set_option maxRecDepth 100000 in
set_option maxHeartbeats 2000000 in
theorem eachR_in (n : Nat) (hn : 3 ≤ n) (k g k2 g2 : Int) (ls lb : Lv) (hl : ls.length ≤ 1000000) (hlb : ∀ i, (lev lb i).length ≤ 10000000) (w : World) (A A2 : Option Addr) (c c2 : Nat) (h : Levs w w.heap.size (.slice A ls.length c) ls) (h2 : Levs w w.heap.size (.slice A2 lb.length c2) lb) :
    CallsIn Fence.wide n Try.prog 34 #[hv k g (.slice A ls.length c), .func (.func 35) #[hv k2 g2 (.slice A2 lb.length c2)] #[]] w fun e w' => e = .returned (.bool (allSame ls lb)) ∧ Below w.heap.size w w' := by
  have h1 : 1 ≤ n := by omega
  have HL := Lib.hid h
  have HLB := Lib.hid h2
  have HHL := Lib.hid hlb
  clear h h2 hlb
  obtain ⟨N, hN⟩ : ∃ N, ls.length = N := ⟨_, rfl⟩
  rw [hN] at hl ⊢
  have HN := Lib.hid hN
  clear hN
  obtain ⟨N2, hN2⟩ : ∃ N, lb.length = N := ⟨_, rfl⟩
  rw [hN2]
  have HN2 := Lib.hid hN2
  clear hN2
  refine callsIn_of_wp_marks Try.func34 rfl trivial ?_ rfl
  simp only [Try.ntmps34, List.size_toArray, List.length_cons, List.length_nil, Nat.reduceAdd, Nat.reduceSub, Array.replicate_succ, Array.replicate_zero, List.push_toArray, List.append_toArray, List.nil_append, List.cons_append]
  gi_wp2_with (refine ⟨trivial, ?_⟩; gi_at_call 33; refine (levels_in (n - 1) k g _ _).mono ?_; rintro e w' ⟨rfl, rfl⟩)
  obtain ⟨W3, hW3, hsz, p0, p1, p2, p3, hB3⟩ := heap_four w (.cells #[.int .i64 k, .int .i64 g, .slice A N c] 32) (.cells #[.func (.func 35) #[hv k2 g2 (.slice A2 N2 c2)] #[]] 82) (.cells #[.bool false] 4) (.cells #[.int .i64 k, .int .i64 g, .slice A N c] 32)
  rw [← hW3]
  have hL3 : Levs W3 w.heap.size (.slice A ls.length c) ls := HL.out.below hB3
  have seq := levels1_in (n - 1) (by omega) w.heap.size (w.heap.size + 1 + 1 + 1) k g ls (by have := HN.out; omega) W3 (by omega) A c hL3 (by rw [HN.out]; exact p3)
  have hlev := HN.out
  refine range_n rfl h1 (gf := 62) (lb := #[.pointer (some ⟨w.heap.size + 1 + 1 + 1, 0, none⟩)]) rfl trivial (enters_of Try.func62 (by kernel_rfl) rfl)
    seq (fun h k => h.trans k) (Kb.put (by omega)) (PxL.put (by omega)) (Below.refl _ _) (fun _ => rfl)
    (fun j W => (∀ i, i < j → lev lb i = lev ls i) ∧ Boxed W (w.heap.size + 1) 82 (.func (.func 35) #[hv k2 g2 (.slice A2 N2 c2)] #[]) ∧ Boxed W (w.heap.size + 1 + 1) 4 (.bool false) ∧ Below w.heap.size w W)
    (fun cd _ W => cd = .ret ∧ allSame ls lb = false ∧ Boxed W (w.heap.size + 1 + 1) 4 (.bool false) ∧ Below w.heap.size w W)
    (fun j W W' row hs hg hr => ⟨hs.1, hs.2.1.kept hg (fun e => by have := (hr _ e.symm).1; omega), hs.2.2.1.kept hg (fun e => by have := (hr _ e.symm).1; omega), hs.2.2.2.grown hg hs.2.2.2.size (fun j e => by have := (hr j e).1; omega)⟩)
    (fun cd j W W' row hs hg hr => ⟨hs.1, hs.2.1, hs.2.2.1.kept hg (fun e => by have := (hr _ e.symm).1; omega), hs.2.2.2.grown hg hs.2.2.2.size (fun j e => by have := (hr j e).1; omega)⟩)
    ⟨fun i hi => absurd hi (by omega), p1, p2, hB3⟩
    (fun x => { tmps := #[hv k g (.slice A N c), .func (.func 35) #[hv k2 g2 (.slice A2 N2 c2)] #[], .pointer (some ⟨w.heap.size, 0, none⟩), .pointer (some ⟨w.heap.size + 1, 0, none⟩), .pointer (some ⟨w.heap.size + 1 + 1, 0, none⟩), .int .i64 (x.i : Int), .slice x.A x.n x.c, hv k g (.slice A N c),
      .func (.func 62) #[] #[.pointer (some ⟨w.heap.size + 1 + 1 + 1, 0, none⟩)], .int .i64 (x.i : Int), .slice x.A x.n x.c, undef, undef, undef, undef, undef], defers := [] }) ?assign ?body ?done ?stop
  case assign =>
    intro l x W K hK
    gi_wp2
    exact hK
  case body =>
    rintro l j x W ⟨hall, hf, hr, hB⟩ ⟨hj, hx1, hx2, hx3⟩
    rw [hx1]
    rw [hx2] at hx3 ⊢
    generalize x.A = Ax at *
    generalize x.c = cx at *
    have hc := hf.cell
    have hrc := hr.cell
    have hrf := hr.frozen
    have hW : w.heap.size ≤ W.heap.size := hB.size
    have hhas := has_any k2 g2 lb j (lev ls j) (HHL.out j) W A2 Ax c2 cx (HLB.out.grow hB) (hx3.mono hW)
    obtain ⟨m, hm⟩ : ∃ m, (lev ls j).length = m := ⟨_, rfl⟩
    rw [hm, HN2.out] at hhas
    rw [hm]
    obtain ⟨q, hq⟩ : ∃ q, decide (lev lb j = lev ls j) = q := ⟨_, rfl⟩
    rw [hq] at hhas
    have HAS := Lib.hid hhas
    have HQ := Lib.hid hq
    have HALL := Lib.hid hall
    have HF := Lib.hid hf
    have HR := Lib.hid hr
    have HB := Lib.hid hB
    have HJ := Lib.hid hj
    clear hhas hq hall hf hr hB hm hx1 hx2 hx3 seq p0 p1 p2 p3 hL3 hj
    cases q with
    | true =>
      gi_wp2_with (refine ⟨trivial, fun _ => (by omega), ?_⟩; refine (callsIn_round l (callsIn_wide.2 HAS.out)).mono ?_; rintro e w' ⟨rfl, hb⟩)
      refine ⟨⟨hb.size, fun k o _ hk ho => (hb.block k (Array.getElem?_eq_some_iff.1 hk).1).trans hk⟩, ⟨hb.size, fun b hbb => hb.block b (by omega)⟩, ?_, (hb.block _ HF.out.lt).trans HF.out, (hb.block _ HR.out.lt).trans HR.out, thn HB.out hb⟩
      intro i hi
      rcases Nat.lt_or_ge i j with h | h
      · exact HALL.out i h
      · have e : i = j := by omega
        rw [e]
        exact of_decide_eq_true HQ.out
    | false =>
      gi_wp2_with (refine ⟨trivial, fun _ => (by omega), ?_⟩; refine (callsIn_round l (callsIn_wide.2 HAS.out)).mono ?_; rintro e w' ⟨rfl, hb⟩; have hr2 : Boxed w' (w.heap.size + 1 + 1) 4 (.bool false) := (hb.block _ HR.out.lt).trans HR.out; have hrc2 := hr2.cell; have hrf2 := hr2.frozen)
      refine ⟨KeepsFrom.trans (Y := w') ⟨hb.size, fun k o _ hk ho => (hb.block k (Array.getElem?_eq_some_iff.1 hk).1).trans hk⟩ ((KeepsOthers.setCell _ _ _).from _), rfl, ?_, hr2.set _, (thn HB.out hb).setCell (p := ⟨w.heap.size + 1 + 1, 0, none⟩) (by simp; omega) _⟩
      unfold allSame
      rw [decide_eq_false_iff_not]
      intro hh
      have := of_decide_eq_false HQ.out
      exact this (hh j HJ.out)
  case done =>
    rintro D _ W hD rfl ⟨hall, hf, hr, hB⟩ hK
    have hrc := hr.cell
    have hrf := hr.frozen
    have hne : w.heap.size + 1 + 1 ≠ D := by omega
    have hK2 : (W.setCell ⟨w.heap.size + 1 + 1, 0, none⟩ (.bool true)).heap[D]? = some (.deferred (some [])) := (Below.heap_setCell _ _ _ _ (Ne.symm hne)).trans hK
    have hr2 : Boxed ((W.setCell ⟨w.heap.size + 1 + 1, 0, none⟩ (.bool true)).putObj D (.deferred none)) (w.heap.size + 1 + 1) 4 (.bool true) := (World.putObj_heap_other hne).trans (hr.set _)
    have hall2 : allSame ls lb = true := by unfold allSame; rw [decide_eq_true_iff]; exact hall
    have HA2 := Lib.hid hall2
    clear hall hall2
    gi_wp2
    refine ⟨by simp, .inl ⟨_, _, rfl, run_takeDeferred hK2, ?_⟩⟩
    refine ⟨.bool true, by simp [results, Try.results34, go_sem, hr2.cell], by rw [HA2.out], ?_⟩
    exact (hB.setCell (p := ⟨w.heap.size + 1 + 1, 0, none⟩) (by simp; omega) _).trans (belowK_b (w := w) (Nat.le_refl _) _ D _ _ (by omega) hK2 rfl rfl)
  case stop =>
    rintro D c j W hD ⟨rfl, hall, hr, hB⟩ hK
    have hne : w.heap.size + 1 + 1 ≠ D := by omega
    have hr2 : Boxed (W.putObj D (.deferred none)) (w.heap.size + 1 + 1) 4 (.bool false) := (World.putObj_heap_other hne).trans hr
    have HA2 := Lib.hid hall
    clear hall
    gi_wp2
    refine ⟨by simp, .inl ⟨_, _, rfl, run_takeDeferred hK, ?_⟩⟩
    refine ⟨.bool false, by simp [results, Try.results34, go_sem, hr2.cell], by rw [HA2.out], ?_⟩
    exact hB.trans (belowK_b (w := w) (Nat.le_refl _) _ D _ _ (by omega) hK rfl rfl)

end Go.Proofs.Ytpdhkpgnajfobaa
end
section
/- The contract of hist.Same. -/
namespace Go.Proofs.Ytpdhkpgnajfobaa
open Go.RowKit Go.Shelf Go.Proofs.Rw Go.Proofs.Lh Go.Proofs.Rn

/-- Whether two histograms are the same. -/
def sameB (ka ga kb gb : Int) (la lb : Lv) : Bool := decide (ka = kb ∧ ga = gb ∧ la = lb)

theorem each_any (k g k2 g2 : Int) (ls lb : Lv) (hl : ls.length ≤ 1000000) (hlb : ∀ i, (lev lb i).length ≤ 10000000) (w : World) (A A2 : Option Addr) (c c2 : Nat) (h : Levs w w.heap.size (.slice A ls.length c) ls) (h2 : Levs w w.heap.size (.slice A2 lb.length c2) lb) :
    Calls Try.prog 34 #[hv k g (.slice A ls.length c), .func (.func 35) #[hv k2 g2 (.slice A2 lb.length c2)] #[]] w fun e w' => e = .returned (.bool (allSame ls lb)) ∧ Below w.heap.size w w' :=
  (callsIn_wide (n := 3)).1 (eachR_in 3 (by omega) k g k2 g2 ls lb hl hlb w A A2 c c2 h h2)

set_option maxHeartbeats 1000000 in
theorem hsame_any (ka ga kb gb : Int) (la lb : Lv) (hl : la.length ≤ 1000000) (hlb : ∀ i, (lev lb i).length ≤ 10000000) (w : World) (A A2 : Option Addr) (c c2 : Nat) (h : Levs w w.heap.size (.slice A la.length c) la) (h2 : Levs w w.heap.size (.slice A2 lb.length c2) lb) :
    Calls Try.prog 16 #[hv ka ga (.slice A la.length c), hv kb gb (.slice A2 lb.length c2)] w fun e w' => e = .returned (.bool (sameB ka ga kb gb la lb)) ∧ Below w.heap.size w w' := by
  have hb0 : Below w.heap.size w ((w.alloc (.cells #[.int .i64 ka, .int .i64 ga, .slice A la.length c] 32)).alloc (.cells #[.int .i64 kb, .int .i64 gb, .slice A2 lb.length c2] 32)) := ((Below.refl _ w).alloc (Nat.le_refl _) _).alloc (by simp) _
  have he := each_any ka ga kb gb la lb hl hlb _ A A2 c c2 (h.grow hb0) (h2.grow hb0)
  have HB0 := Lib.hid hb0
  have HE := Lib.hid he
  clear he h h2 hb0
  by_cases h1 : ka = kb
  · by_cases h2 : ga = gb
    · by_cases h3 : la.length = lb.length
      · subst h1 h2
        have hs : sameB ka ga ka ga la lb = allSame la lb := by
          rw [allSame_eq h3]
          simp [sameB]
        rw [hs]
        have hz : ((la.length : Int) == (lb.length : Int)) = true := by rw [h3]; simp
        clear hs h3
        go_enter Try.func16, Try.ntmps16
        go_wp2_with (go_at_call 34; refine HE.out.mono ?_; rintro e w' ⟨rfl, hb⟩)
        go_ret
        exact ⟨rfl, HB0.out.trans (hb.mono (by simp; omega))⟩
      · have hs : sameB ka ga kb gb la lb = false := by
          simp only [sameB, decide_eq_false_iff_not]
          rintro ⟨_, _, e⟩
          exact h3 (by rw [e])
        rw [hs]
        subst h1 h2
        have hz : ((la.length : Int) == (lb.length : Int)) = false := by rw [beq_eq_false_iff_ne]; omega
        clear hs h3
        go_enter Try.func16, Try.ntmps16
        go_wp2
        go_ret
        exact ⟨rfl, HB0.out⟩
    · have hs : sameB ka ga kb gb la lb = false := by simp [sameB, h2]
      rw [hs]
      subst h1
      have hz : (ga == gb) = false := by rw [beq_eq_false_iff_ne]; exact h2
      clear hs h2
      go_enter Try.func16, Try.ntmps16
      go_wp2
      go_ret
      exact ⟨rfl, HB0.out⟩
  · have hs : sameB ka ga kb gb la lb = false := by simp [sameB, h1]
    rw [hs]
    have hz : (ka != kb) = true := by simpa using h1
    clear hs
    go_enter Try.func16, Try.ntmps16
    go_wp2
    go_ret
    exact ⟨rfl, HB0.out⟩

end Go.Proofs.Ytpdhkpgnajfobaa
end
section
/- The contracts of skylightref06's small functions: Total, Last, at. -/
namespace Go.Proofs.Ytpdhkpgnajfobaa
open Go.RowKit Go.Proofs.Rw Go.Proofs.Lh

set_option maxHeartbeats 1000000 in
theorem rat_any (k g : Int) (ls : Lv) (i : Nat) (w : World) (B : Nat) (hB : B ≤ w.heap.size) (A : Option Addr) (c : Nat) (h : Levs w B (.slice A ls.length c) ls) :
    Calls Try.prog 61 #[hv k g (.slice A ls.length c), .int .i64 (i : Int)] w fun e w' => ∃ A' c', e = .returned (.slice A' (lev ls i).length c') ∧ Lies spL w B (.slice A' (lev ls i).length c') (lev ls i) ∧ Below w.heap.size w w' := by
  rcases Nat.lt_or_ge i ls.length with hi | hi
  · obtain ⟨b, off, rfl, hb, _, hc⟩ := h.at (by omega)
    obtain ⟨Ai, ci, hcell, _, _, hL⟩ := hc i hi
    rw [lev_lt hi]
    have hbs : b < w.heap.size := by omega
    have HL := Lib.hid hL
    generalize ls[i] = l at *
    clear h hc hL
    go_enter Try.func61, Try.ntmps61
    go_wp2
    go_ret
    exact ⟨_, _, rfl, HL.out, (Below.refl _ w).alloc (Nat.le_refl _) _⟩
  · rw [lev_ge hi]
    clear h
    go_enter Try.func61, Try.ntmps61
    go_wp2
    go_ret
    exact ⟨none, 0, rfl, Lies.nil _ _ (by unfold maxLen; omega), (Below.refl _ w).alloc (Nat.le_refl _) _⟩

set_option maxHeartbeats 1000000 in
theorem rlast_any (k g : Int) (ls : Lv) (w : World) (A : Option Addr) (c : Nat) (h : Levs w w.heap.size (.slice A ls.length c) ls) (hl : (lev ls 0).length ≤ 1000000) :
    Calls Try.prog 59 #[hv k g (.slice A ls.length c)] w fun e w' => e = lastV ls ∧ Below w.heap.size w w' := by
  rcases Nat.eq_zero_or_pos ls.length with h0 | h0
  · have hz := lastOf_nil (ls := ls) (by rw [lev_ge (by omega)]; rfl)
    have HZ := Lib.hid hz
    rw [h0]
    clear h hz hl
    go_enter Try.func59, Try.ntmps59
    go_wp2
    refine bodyPost_ret (results_tmp2 rfl _ _ _) rfl ⟨?_, (Below.refl _ w).alloc (Nat.le_refl _) _⟩
    unfold lastV
    rw [HZ.out]
    rfl
  · obtain ⟨b, off, rfl, hb, -, hc⟩ := h.at (by omega)
    obtain ⟨Ai, ci, hcell, -, -, hL⟩ := hc 0 h0
    rw [← lev_lt h0] at hcell hL
    have hne : ((ls.length : Int) == 0) = false := by rw [beq_eq_false_iff_ne]; omega
    rw [Nat.add_zero] at hcell
    have h0i : (0 : Int) < (ls.length : Int) := by omega
    rcases hn : (lev ls 0).length with _ | n
    · have hz := lastOf_nil hn
      rw [hn] at hcell
      have HZ := Lib.hid hz
      clear h hz hl hc hL hn
      go_enter Try.func59, Try.ntmps59
      go_wp2
      refine bodyPost_ret (results_tmp2 rfl _ _ _) rfl ⟨?_, (Below.refl _ w).alloc (Nat.le_refl _) _⟩
      unfold lastV
      rw [HZ.out]
      rfl
    · have hz := lastOf_at (n := n) hn.symm
      obtain ⟨x, hx⟩ : ∃ x, (lev ls 0)[n]? = some x := ⟨_, List.getElem?_eq_getElem (by omega)⟩
      have hxe : (lev ls 0)[n]'(by omega) = x := by rw [List.getElem?_eq_getElem (by omega)] at hx; injection hx
      rw [hxe] at hz
      obtain ⟨b2, off2, rfl, hbb, -, hc2⟩ := sp_at hL (by omega)
      obtain ⟨-, q1⟩ := hc2 n (by omega)
      rw [hxe] at q1
      rw [hn] at hcell
      have HZ := Lib.hid hz
      have hn2 : n < 1000000 := by omega
      have e1 : ((n + 1 : Nat) : Int) - 1 = (n : Int) := by omega
      have e2 : (((n + 1 : Nat) : Int) == 0) = false := by rw [beq_eq_false_iff_ne]; omega
      clear h hz hl hc hL hn hc2 hx hxe
      go_enter Try.func59, Try.ntmps59
      go_wp2
      refine bodyPost_ret (results_tmp2 rfl _ _ _) rfl ⟨?_, (Below.refl _ w).alloc (Nat.le_refl _) _⟩
      unfold lastV
      rw [HZ.out]
      rfl

set_option maxHeartbeats 1000000 in
theorem rtotal_rd (k g : Int) (ls : Lv) (hl : ls.length ≤ 60) (ht : tot ls ≤ 4611686018427387904) (w : World) (A : Option Addr) (c : Nat) (h : Reads w w.heap.size (.slice A ls.length c) ls) :
    Calls Try.prog 25 #[hv k g (.slice A ls.length c)] w fun e w' => e = .returned (.int .u64 (tot ls : Int)) ∧ Below w.heap.size w w' := by
  obtain ⟨N, hN⟩ : ∃ N, ls.length = N := ⟨_, rfl⟩
  have HL := Lib.hid h
  rw [hN] at HL hl ⊢
  have HN := Lib.hid hN
  have HT := Lib.hid ht
  clear h hN ht
  go_enter Try.func25, Try.ntmps25
  go_wp2
  go_loop [3, 4] (fun s i => ∃ j : Nat, i = .int .i64 (j : Int) ∧ j ≤ N ∧ s = .int .u64 (totFrom 0 (ls.take j) : Nat)) (fun _ i => N - (intOf i).toNat)
  case atStart => exact ⟨0, rfl, Nat.zero_le _, rfl⟩
  case round =>
    obtain ⟨j, rfl, hj, rfl⟩ := hrel
    by_cases hlt : j < N
    · have hjl : j < ls.length := by rw [HN.out]; exact hlt
      obtain ⟨b, off, rfl, hb, -, hc⟩ := HL.out.at (by omega)
      obtain ⟨Ai, ci, q0, -, -, -⟩ := hc j hjl
      have hstep := totFrom_take hjl
      have hle := totFrom_le ls (j + 1)
      obtain ⟨s, hs⟩ : ∃ s, totFrom 0 (ls.take j) = s := ⟨_, rfl⟩
      obtain ⟨d, hd⟩ : ∃ d, ls[j].length * 2 ^ j = d := ⟨_, rfl⟩
      rw [hs, hd] at hstep
      rw [hs]
      generalize ls[j].length = m at *
      have hsd : s + d ≤ 4611686018427387904 := by have := HT.out; omega
      have hval := wsum hd hsd
      rw [← hstep] at hval
      have HVAL := Lib.hid hval
      clear hc hstep hle hs hd hval hsd hjl
      go_wp2
      refine ⟨⟨j + 1, by go_num, hlt, ?_⟩, by simp [intOf]; omega⟩
      rw [HVAL.out]
    · have e : j = N := by omega
      subst e
      have ef : totFrom 0 (ls.take j) = tot ls := by rw [← HN.out, List.take_length, tot_eq]
      rw [ef]
      clear ef
      go_wp2
      go_ret
      exact ⟨rfl, (Below.refl _ w).alloc (Nat.le_refl _) _⟩

theorem rtotal_any (k g : Int) (ls : Lv) (hl : ls.length ≤ 60) (ht : tot ls ≤ 4611686018427387904) (w : World) (A : Option Addr) (c : Nat) (h : Levs w w.heap.size (.slice A ls.length c) ls) :
    Calls Try.prog 25 #[hv k g (.slice A ls.length c)] w fun e w' => e = .returned (.int .u64 (tot ls : Int)) ∧ Below w.heap.size w w' := rtotal_rd k g ls hl ht w A c h.reads

end Go.Proofs.Ytpdhkpgnajfobaa
end
