/- The contracts of estimate.Parts and estimate.Of. -/
import Derived.Laws.EntriesVeiled
import Derived.Test.YthmbmiikhghaoaaEsBuck
import Derived.Test.YthmbmiikhghaoaaRangeM
namespace Go.Proofs.Ythmbmiikhghaoaa
open Go.RowKit Go.Shelf Go.Proofs.Rw Go.Proofs.Lh Go.Proofs.Rn

attribute [local go_sem] Oper.semAt_some

theorem heap5 (w : World) (o0 o1 o2 o3 o4 : Obj) : ∃ W, W = ((((w.alloc o0).alloc o1).alloc o2).alloc o3).alloc o4 ∧ W.heap.size = w.heap.size + 5 ∧ W.heap[w.heap.size]? = some o0 ∧ W.heap[w.heap.size + 1]? = some o1 ∧ W.heap[w.heap.size + 1 + 1]? = some o2 ∧ W.heap[w.heap.size + 1 + 1 + 1]? = some o3 ∧ W.heap[w.heap.size + 1 + 1 + 1 + 1]? = some o4 ∧ Below w.heap.size w W := by
  refine ⟨_, rfl, by simp, ?_, ?_, ?_, ?_, ?_, (((((Below.refl _ w).alloc (Nat.le_refl _) _).alloc (by simp) _).alloc (by simp; omega) _).alloc (by simp; omega) _).alloc (by simp; omega) _⟩
  · rw [Below.heap_alloc _ _ _ (by simp <;> omega), Below.heap_alloc _ _ _ (by simp <;> omega), Below.heap_alloc _ _ _ (by simp <;> omega), Below.heap_alloc _ _ _ (by simp)]
    exact World.alloc_heap_new w _
  · rw [Below.heap_alloc _ _ _ (by simp <;> omega), Below.heap_alloc _ _ _ (by simp <;> omega), Below.heap_alloc _ _ _ (by simp)]
    have := World.alloc_heap_new (w.alloc o0) o1
    simpa using this
  · rw [Below.heap_alloc _ _ _ (by simp <;> omega), Below.heap_alloc _ _ _ (by simp)]
    have := World.alloc_heap_new ((w.alloc o0).alloc o1) o2
    simpa using this
  · rw [Below.heap_alloc _ _ _ (by simp)]
    have := World.alloc_heap_new (((w.alloc o0).alloc o1).alloc o2) o3
    simpa using this
  · have := World.alloc_heap_new ((((w.alloc o0).alloc o1).alloc o2).alloc o3) o4
    simpa using this
theorem heap_next {w W : World} {B : Nat} (h : Below B w W) (hB : B ≤ W.heap.size) (o : Obj) : ∃ W', W' = W.alloc o ∧ W'.heap.size = W.heap.size + 1 ∧ W'.heap[W.heap.size]? = some o ∧ (∀ b, b < W.heap.size → W'.heap[b]? = W.heap[b]?) ∧ Below B w W' :=
  ⟨_, rfl, by simp, heap_alloc_new W o, fun b hb => Below.heap_alloc W o b hb, h.alloc hB o⟩

/-- The closure that asks what is within. -/
abbrev inV (bs bt : Nat) : Value := .func (.func 31) #[] #[.pointer (some ⟨bs, 0, none⟩), .pointer (some ⟨bt, 0, none⟩)]

theorem boxed_off {W : World} {b b' : Nat} {T : TypeId} {v : Value} (h : Boxed W b T v) (hne : b ≠ b') (u : Value) : Boxed (W.setCell ⟨b', 0, none⟩ u) b T v := (Below.heap_setCell _ _ _ _ hne).trans h
theorem boxed_sum {W : World} {b : Nat} {T : TypeId} {x : Nat} (h : Boxed W b T (.int .u64 (x : Int))) (d : Nat) : Boxed (W.setCell ⟨b, 0, none⟩ (.int .u64 ((x : Int) + (d : Int)))) b T (.int .u64 ((x + d : Nat) : Int)) := by
  have := h.set (.int .u64 ((x + d : Nat) : Int))
  rw [Int.natCast_add] at this ⊢
  exact this
theorem kb_set {B b : Nat} {W : World} (h : B ≤ b) (u : Value) : Kb B W (W.setCell ⟨b, 0, none⟩ u) := ⟨by simp [World.setCell], fun c hc => Below.heap_setCell _ _ _ _ (by simp; omega)⟩
theorem heap_drew' {W : World} {D : Nat} {o : Obj} (h : W.heap[D]? = some o) : W.drew.heap[D]? = some o := h

/-- What stands in memory behind k buckets. -/
structure PI (w : World) (z f v : Nat) (ls : Lv) (k : Nat) (W : World) : Prop where
  sure : Boxed W (w.heap.size + 1) 23 (.int .u64 (sureTo (withB f v) ls k : Nat))
  cut : Boxed W (w.heap.size + 1 + 1) 23 (.int .u64 (cutTo (withB f v) ls k : Nat))
  tick : Boxed W (w.heap.size + 1 + 1 + 1) 23 (.int .u64 (f : Int))
  span : Boxed W (w.heap.size + 1 + 1 + 1 + 1) 23 (.int .u64 (v : Int))
  ask : Boxed W z 47 (inV (w.heap.size + 1 + 1 + 1 + 1) (w.heap.size + 1 + 1 + 1))
  below : Below w.heap.size w W
theorem PI.own {w : World} {z f v B : Nat} {ls : Lv} (h : w.heap.size + 4 < B) (hz : z < B) : OwnFrom B (PI w z f v ls) := fun _ W W' row hs hg hr =>
  ⟨hs.sure.kept hg (fun e => by have := (hr _ e.symm).1; omega), hs.cut.kept hg (fun e => by have := (hr _ e.symm).1; omega), hs.tick.kept hg (fun e => by have := (hr _ e.symm).1; omega),
    hs.span.kept hg (fun e => by have := (hr _ e.symm).1; omega), hs.ask.kept hg (fun e => by have := (hr _ e.symm).1; omega), hs.below.grown hg hs.below.size (fun j e => by have := (hr j e).1; omega)⟩

set_option maxRecDepth 100000 in
set_option maxHeartbeats 2000000 in
theorem partsR_in (n : Nat) (hn : 3 ≤ n) (k g : Int) (ls : Lv) (hl : ls.length ≤ 60) (hlv : ∀ i, (lev ls i).length ≤ 1000000) (ht : tot ls ≤ 4611686018427387904) (f v : Nat) (hf : f < 18446744073709551616) (w : World) (A : Option Addr) (c : Nat) (h : Levs w w.heap.size (.slice A ls.length c) ls) :
    CallsIn Fence.wide n Try.prog 10 #[hv k g (.slice A ls.length c), .int .u64 (f : Int), .int .u64 (v : Int)] w fun e w' => e = .returned (.tuple #[.int .u64 (sureL (withB f v) 0 ls : Nat), .int .u64 (cutS (withB f v) 0 ls : Nat)]) ∧ Below w.heap.size w w' := by
  have h1 : 1 ≤ n := by omega
  have HL := Lib.hid h
  clear h
  obtain ⟨N, hN⟩ : ∃ N, ls.length = N := ⟨_, rfl⟩
  rw [hN] at hl ⊢
  have HN := Lib.hid hN
  clear hN
  refine callsIn_of_wp_marks Try.func10 rfl trivial ?_ rfl
  simp only [Try.ntmps10, List.size_toArray, List.length_cons, List.length_nil, Nat.reduceAdd, Nat.reduceSub, Array.replicate_succ, Array.replicate_zero, List.push_toArray, List.append_toArray, List.nil_append, List.cons_append]
  gi_wp2_with (first
    | (refine ⟨trivial, ?_⟩; gi_at_call 19; refine (within_in (n - 1) _ _ _).mono ?_; rintro e w' ⟨rfl, rfl⟩; obtain ⟨W5, hW5, hz5, p0, p1, p2, p3, p4, hB5⟩ := heap5 w (.cells #[.int .i64 k, .int .i64 g, .slice A N c] 32) (.cells #[.int .u64 0] 23) (.cells #[.int .u64 0] 23) (.cells #[.int .u64 (f : Int)] 23) (.cells #[.int .u64 (v : Int)] 23); rw [← hW5]; obtain ⟨q0, q1, q2⟩ := box3 p0; have l0 := lt_of p0; have P0 := Lib.hid p0; have P1 := Lib.hid p1; have P2 := Lib.hid p2; have P3 := Lib.hid p3; have P4 := Lib.hid p4; have HZ5 := Lib.hid hz5; have HB5 := Lib.hid hB5; clear p0 p1 p2 p3 p4 hz5 hB5 hW5)
    | (refine ⟨trivial, ?_⟩; gi_at_call 20; refine (buckets_in (n - 1) k g _ _).mono ?_; rintro e w' ⟨rfl, rfl⟩))
  obtain ⟨W7, hW7, hz7, r0, r1, hB7⟩ := heap_two W5 (.cells #[inV (w.heap.size + 1 + 1 + 1 + 1) (w.heap.size + 1 + 1 + 1)] 47) (.cells #[.int .i64 k, .int .i64 g, .slice A N c] 32)
  rw [← hW7]
  have z5 := HZ5.out
  have hBw : Below w.heap.size w W7 := thn HB5.out hB7
  have hL7 : Levs W7 w.heap.size (.slice A ls.length c) ls := HL.out.below hBw
  have seq := buckets1_in (n - 1) (by omega) w.heap.size (W5.heap.size + 1) k g ls (by have := HN.out; omega) hlv W7 (by omega) A c hL7 (by rw [HN.out]; exact r1)
  have hI0 : PI w W5.heap.size f v ls 0 W7 := by
    refine ⟨?_, ?_, (hB7.block _ (by omega)).trans P3.out, (hB7.block _ (by omega)).trans P4.out, r0, hBw⟩
    · rw [sure_zero]
      exact (hB7.block _ (by omega)).trans P1.out
    · rw [cut_zero]
      exact (hB7.block _ (by omega)).trans P2.out
  obtain ⟨z, hz⟩ : ∃ z, W5.heap.size = z := ⟨_, rfl⟩
  rw [hz] at hz7 seq hI0 z5 ⊢
  have zl : w.heap.size + 4 < z := by omega
  have z7 : z < W7.heap.size := by omega
  have z8 : w.heap.size ≤ W7.heap.size := by omega
  have z9 : w.heap.size + 4 < W7.heap.size := by omega
  clear z5 hz7 hz r0 r1 hL7 hB7 hW7 q0 q1 q2 l0 P0 P1 P2 P3 P4 HZ5 HB5
  refine range_m rfl h1 (gf := 32) (lb := #[.pointer (some ⟨z + 1, 0, none⟩)]) rfl trivial (enters_of Try.func32 (by kernel_rfl) rfl)
    seq (fun h k => h.trans k) (Kb.put z8) (fun _ _ _ _ _ _ _ _ _ h => h) (Below.refl _ _) (fun _ => rfl)
    (PI w z f v ls) (fun _ _ _ => False)
    (PI.own z9 z7)
    (fun _ _ _ _ _ hs _ _ => hs)
    hI0
    (fun x => .cells #[.int .u64 (x.2.1 : Int), .int .u64 (x.2.2 : Int)] 53)
    (fun x b => { tmps := #[hv k g (.slice A N c), .int .u64 (f : Int), .int .u64 (v : Int), .pointer (some ⟨w.heap.size, 0, none⟩), undef, undef, .int .u64 0, .int .u64 0, .pointer (some ⟨w.heap.size + 1, 0, none⟩), .pointer (some ⟨w.heap.size + 1 + 1, 0, none⟩), .pointer (some ⟨z, 0, none⟩),
      .int .u64 ((2 ^ x.1 : Nat) : Int), .pointer (some ⟨b, 0, none⟩), .int .u64 (f : Int), .int .u64 (v : Int), inV (w.heap.size + 1 + 1 + 1 + 1) (w.heap.size + 1 + 1 + 1), hv k g (.slice A N c), .func (.func 32) #[] #[.pointer (some ⟨z + 1, 0, none⟩)],
      .int .u64 ((2 ^ x.1 : Nat) : Int), .agg #[.int .u64 (x.2.1 : Int), .int .u64 (x.2.2 : Int)], undef, undef, undef, undef, undef, undef, undef, undef, undef, undef, undef, undef, undef, undef, undef, undef, undef, undef], defers := [] })
    (fun W W' hz hb => Kb.of_below hb (Nat.le_trans z8 hz)) (fun _ _ _ _ _ _ h => h) ?assign ?body ?done ?stop
  case assign =>
    intro l x W K hK
    gi_wp2
    exact hK
  case body =>
    rintro l j x b W ⟨hs, hc, htk, hsp, hin, hB⟩ hx hb hblk
    have hns := sure_next (p := withB f v) hx
    have hnc := cut_next (p := withB f v) hx
    have hle := to_le (withB f v) ls (j + 1)
    unfold sureV at hns
    unfold cutV at hnc
    obtain ⟨d, hd⟩ : ∃ d, 2 ^ x.1 = d := ⟨_, rfl⟩
    rw [hd] at hns hnc ⊢
    generalize x.2.1 = t0 at *
    generalize x.2.2 = t1 at *
    have hw0 := with1_any t0 f v hf _ _ W hsp.cell htk.cell
    have hw1 := with1_any t1 f v hf _ _ W hsp.cell htk.cell
    obtain ⟨b0, b1, -, -⟩ := box2 hblk
    have lb := lt_of hblk
    have li := hin.cell
    have lli := hin.lt
    have cs := hs.cell
    have cc := hc.cell
    have fs := hs.frozen
    have fc := hc.frozen
    obtain ⟨u, hu⟩ : ∃ u, sureTo (withB f v) ls j = u := ⟨_, rfl⟩
    obtain ⟨y, hy⟩ : ∃ y, cutTo (withB f v) ls j = y := ⟨_, rfl⟩
    rw [hu] at hns cs hs
    rw [hy] at hnc cc hc
    have HB := Lib.hid hB
    have HS := Lib.hid hs
    have HC := Lib.hid hc
    have HT := Lib.hid htk
    have HSP := Lib.hid hsp
    have HIN := Lib.hid hin
    have HW0 := Lib.hid hw0
    have HW1 := Lib.hid hw1
    have ls1 := hs.lt
    have lc1 := hc.lt
    clear hB hs hc htk hsp hin hw0 hw1 hblk hx hd hu hy seq hI0 hBw
    cases hq0 : withB f v t0 with
    | true =>
      rw [hq0, if_pos rfl] at hns hnc
      rw [hq0] at HW0
      have bd : (u : Int) + (d : Int) ≤ 18446744073709551615 := by omega
      have HNS := Lib.hid hns
      have HNC := Lib.hid hnc
      clear hns hnc hle hq0 HW1
      gi_wp2_with (refine ⟨trivial, fun _ => (by omega), ?_⟩; refine (callsIn_round l (callsIn_wide.2 HW0.out)).mono ?_; rintro e w' ⟨rfl, rfl⟩)
      refine ⟨(KeepsOthers.setCell _ _ _).from _, kb_set (by omega) _, ?_, ?_, boxed_off HT.out (by omega) _, boxed_off HSP.out (by omega) _, boxed_off HIN.out (by omega) _, HB.out.setCell (p := ⟨w.heap.size + 1, 0, none⟩) (by simp) _⟩
      · rw [HNS.out]
        exact boxed_sum HS.out d
      · rw [HNC.out]
        exact boxed_off HC.out (by omega) _
    | false =>
      rw [hq0, if_neg (by simp)] at hns hnc
      rw [hq0] at HW0
      cases hq1 : withB f v t1 with
      | true =>
        rw [hq1, if_pos rfl] at hnc
        rw [hq1] at HW1
        have bd : (y : Int) + (d : Int) ≤ 18446744073709551615 := by omega
        have HNS := Lib.hid hns
        have HNC := Lib.hid hnc
        clear hns hnc hle hq0 hq1
        gi_wp2_with (first
          | (refine ⟨trivial, fun _ => (by omega), ?_⟩; (with_reducible refine (callsIn_round l (callsIn_wide.2 HW0.out)).mono ?_); rintro e w' ⟨rfl, rfl⟩)
          | (refine ⟨trivial, fun _ => (by omega), ?_⟩; (with_reducible refine (callsIn_round l (callsIn_wide.2 HW1.out)).mono ?_); rintro e w' ⟨rfl, rfl⟩))
        refine ⟨(KeepsOthers.setCell _ _ _).from _, kb_set (by omega) _, ?_, ?_, boxed_off HT.out (by omega) _, boxed_off HSP.out (by omega) _, boxed_off HIN.out (by omega) _, HB.out.setCell (p := ⟨w.heap.size + 1 + 1, 0, none⟩) (by simp; omega) _⟩
        · rw [HNS.out]
          exact boxed_off HS.out (by omega) _
        · rw [HNC.out]
          exact boxed_sum HC.out d
      | false =>
        rw [hq1, if_neg (by simp)] at hnc
        rw [hq1] at HW1
        have HNS := Lib.hid hns
        have HNC := Lib.hid hnc
        clear hns hnc hle hq0 hq1
        gi_wp2_with (first
          | (refine ⟨trivial, fun _ => (by omega), ?_⟩; (with_reducible refine (callsIn_round l (callsIn_wide.2 HW0.out)).mono ?_); rintro e w' ⟨rfl, rfl⟩)
          | (refine ⟨trivial, fun _ => (by omega), ?_⟩; (with_reducible refine (callsIn_round l (callsIn_wide.2 HW1.out)).mono ?_); rintro e w' ⟨rfl, rfl⟩))
        refine ⟨KeepsFrom.refl _ _, Kb.refl _ _, ?_, ?_, HT.out, HSP.out, HIN.out, HB.out⟩
        · rw [HNS.out]
          exact HS.out
        · rw [HNC.out]
          exact HC.out
  case done =>
    rintro D _ W hD rfl hI hK
    have cs := hI.sure.cell
    have cc := hI.cut.cell
    have ls1 := hI.sure.lt
    have lc1 := hI.cut.lt
    rw [sure_to] at cs
    rw [cut_to] at cc
    have HB := Lib.hid hI.below
    clear hI hI0 seq
    gi_wp2
    gi_region
    all_goals
      gi_wp2
      refine ⟨by simp, .inl ⟨_, _, rfl, run_takeDeferred (heap_drew' hK), ?_⟩⟩
      exact ⟨_, results_tmp2 rfl _ _ _, rfl, HB.out.drew.trans (belowK_b (w := w) (Nat.le_refl _) W.drew D _ _ (by omega) (heap_drew' hK) rfl rfl)⟩
  case stop =>
    rintro D c pre W _ h _
    exact h.elim

/-- estimate.Parts, in whatever memory. -/
theorem parts_any (k g : Int) (ls : Lv) (hl : ls.length ≤ 60) (hlv : ∀ i, (lev ls i).length ≤ 1000000) (ht : tot ls ≤ 4611686018427387904) (f v : Nat) (hf : f < 18446744073709551616) (w : World) (A : Option Addr) (c : Nat) (h : Levs w w.heap.size (.slice A ls.length c) ls) :
    Calls Try.prog 10 #[hv k g (.slice A ls.length c), .int .u64 (f : Int), .int .u64 (v : Int)] w fun e w' => e = .returned (.tuple #[.int .u64 (sureL (withB f v) 0 ls : Nat), .int .u64 (cutS (withB f v) 0 ls : Nat)]) ∧ Below w.heap.size w w' :=
  (callsIn_wide (n := 3)).1 (partsR_in 3 (by omega) k g ls hl hlv ht f v hf w A c h)

set_option maxHeartbeats 1000000 in
theorem of_any (k g : Int) (ls : Lv) (hl : ls.length ≤ 60) (hlv : ∀ i, (lev ls i).length ≤ 1000000) (ht : tot ls ≤ 4611686018427387904) (f v : Nat) (hf : f < 18446744073709551616) (w : World) (A : Option Addr) (c : Nat) (h : Levs w w.heap.size (.slice A ls.length c) ls) :
    Calls Try.prog 13 #[hv k g (.slice A ls.length c), .int .u64 (f : Int), .int .u64 (v : Int)] w fun e w' => e = .returned (.int .u64 (estL (withB f v) ls : Nat)) ∧ Below w.heap.size w w' := by
  have hb0 : Below w.heap.size w (w.alloc (.cells #[.int .i64 k, .int .i64 g, .slice A ls.length c] 32)) := (Below.refl _ w).alloc (Nat.le_refl _) _
  have hp := parts_any k g ls hl hlv ht f v hf _ A c (h.grow hb0)
  have hle := parts_le (withB f v) ls 0
  rw [tot_eq] at hle
  have he : estL (withB f v) ls = sureL (withB f v) 0 ls + cutS (withB f v) 0 ls / 2 := rfl
  obtain ⟨s, hs⟩ : ∃ s, sureL (withB f v) 0 ls = s := ⟨_, rfl⟩
  obtain ⟨y, hy⟩ : ∃ s, cutS (withB f v) 0 ls = s := ⟨_, rfl⟩
  rw [hs, hy] at hp hle he
  have hq : (s : Int) + (y : Int) / 2 = ((estL (withB f v) ls : Nat) : Int) := by omega
  have bd : (s : Int) + (y : Int) / 2 ≤ 18446744073709551615 := by omega
  have HP := Lib.hid hp
  have HB0 := Lib.hid hb0
  have HQ := Lib.hid hq
  clear hp hb0 hq he hs hy h
  go_enter Try.func13, Try.ntmps13
  go_wp2_with (go_at_call 10; refine HP.out.mono ?_; rintro e w1 ⟨rfl, hb1⟩; have HB1 := Lib.hid hb1; clear hb1)
  rw [HQ.out]
  go_ret
  exact ⟨rfl, thn HB0.out HB1.out⟩

end Go.Proofs.Ythmbmiikhghaoaa
