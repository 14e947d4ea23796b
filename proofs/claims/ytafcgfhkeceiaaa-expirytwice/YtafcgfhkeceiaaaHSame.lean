/- The contracts of hist's each, other.has and Same. -/
import Derived.Test.YtafcgfhkeceiaaaHLevels
namespace Go.Proofs.Ytafcgfhkeceiaaa
open Go.RowKit Go.Shelf Go.Proofs.Rw Go.Proofs.Lh Go.Proofs.Rn

attribute [local go_sem] Oper.semAt_some

theorem has_any (k g : Int) (ls : Lv) (i : Nat) (xs : List Sp) (hl : (lev ls i).length ≤ 10000000) (w : World) (A A2 : Option Addr) (c c2 : Nat) (h : Levs w w.heap.size (.slice A ls.length c) ls) (h2 : Lies spL w w.heap.size (.slice A2 xs.length c2) xs) :
    Calls Try.prog 28 #[hv k g (.slice A ls.length c), .int .i64 (i : Int), .slice A2 xs.length c2] w fun e w' => e = .returned (.bool (decide (lev ls i = xs))) ∧ Below w.heap.size w w' := by
  have hat := at_any k g ls i (w.alloc (.cells #[.int .i64 k, .int .i64 g, .slice A ls.length c] 62)) w.heap.size (by simp) A c (h.alloc (Nat.le_refl _) _)
  have HAT := Lib.hid hat
  have H2 := Lib.hid h2
  clear hat h h2
  go_enter Try.func28, Try.ntmps28
  go_wp2_with (first
    | (go_at_call 36; refine HAT.out.mono ?_; rintro e w1 ⟨A', c', rfl, hL, hb⟩; have HB := Lib.hid (((Below.refl _ w).alloc (Nat.le_refl _) _).trans (hb.mono (by simp))); have HL := Lib.hid ((hL.below (hb.mono (by simp))).mono (show w.heap.size ≤ w1.heap.size from HB.out.size)); clear hL hb)
    | (go_at_call 35; refine (equal_any _ _ hl w1 w1.heap.size (Nat.le_refl _) _ _ _ _ HL.out (H2.out.grow HB.out)).mono ?_; rintro e w2 ⟨rfl, hb2⟩; have HB2 := Lib.hid hb2; clear hb2))
  go_ret
  exact ⟨rfl, thn HB.out HB2.out⟩

theorem heap_four (w : World) (o0 o1 o2 o3 : Obj) : ∃ W, W = (((w.alloc o0).alloc o1).alloc o2).alloc o3 ∧ W.heap.size = w.heap.size + 4 ∧ W.heap[w.heap.size]? = some o0 ∧ W.heap[w.heap.size + 1]? = some o1 ∧ W.heap[w.heap.size + 1 + 1]? = some o2 ∧ W.heap[w.heap.size + 1 + 1 + 1]? = some o3 ∧ Below w.heap.size w W := by
  obtain ⟨W3, rfl, hsz, p0, p1, p2, hb⟩ := heap_three w o0 o1 o2
  refine ⟨_, rfl, by simp [hsz], ?_, ?_, ?_, ?_, hb.alloc (by omega) _⟩
  · rw [Below.heap_alloc _ _ _ (by omega)]; exact p0
  · rw [Below.heap_alloc _ _ _ (by omega)]; exact p1
  · rw [Below.heap_alloc _ _ _ (by omega)]; exact p2
  · have := World.alloc_heap_new (((w.alloc o0).alloc o1).alloc o2) o3
    rw [hsz] at this
    exact this

/-- What holds of a call holds of it within a round. -/
theorem callsIn_round {F : Fence} {n : Nat} {P : Program} {f : FuncId} {args : Array Value} {w : World} {R : Ending → World → Prop} (l : Nat) (h : CallsIn F n P f args w R) : CallsIn (F.inRound l) n P f args w R := h

/-- Whether all levels of one are those of the other. -/
def allSame (la lb : Lv) : Bool := decide (∀ i, i < la.length → lev lb i = lev la i)
theorem allSame_eq {la lb : Lv} (h : la.length = lb.length) : allSame la lb = decide (la = lb) := by
  unfold allSame
  rw [decide_eq_decide]
  constructor
  · intro hh
    refine List.ext_getElem h fun i h1 h2 => ?_
    have := hh i h1
    rw [lev_lt h1, lev_lt h2] at this
    exact this.symm
  · rintro rfl i _
    rfl

set_option maxRecDepth 100000 in
set_option maxHeartbeats 2000000 in
theorem eachR_in (n : Nat) (hn : 3 ≤ n) (k g k2 g2 : Int) (ls lb : Lv) (hl : ls.length ≤ 1000000) (hlb : ∀ i, (lev lb i).length ≤ 10000000) (w : World) (A A2 : Option Addr) (c c2 : Nat) (h : Levs w w.heap.size (.slice A ls.length c) ls) (h2 : Levs w w.heap.size (.slice A2 lb.length c2) lb) :
    CallsIn Fence.wide n Try.prog 27 #[hv k g (.slice A ls.length c), .func (.func 28) #[hv k2 g2 (.slice A2 lb.length c2)] #[]] w fun e w' => e = .returned (.bool (allSame ls lb)) ∧ Below w.heap.size w w' := by
  have h1 : 1 ≤ n := by omega
  have HL := Lib.hid h
  have HLB := Lib.hid h2
  have HHL := Lib.hid hlb
  clear h h2 hlb
  obtain ⟨N, hN⟩ : ∃ N, ls.length = N := ⟨_, rfl⟩
  rw [hN] at hl ⊢
  have HN := Lib.hid hN
  clear hN
  obtain ⟨N2, hN2⟩ : ∃ N, lb.length = N := ⟨_, rfl⟩
  rw [hN2]
  have HN2 := Lib.hid hN2
  clear hN2
  refine callsIn_of_wp_marks Try.func27 rfl trivial ?_ rfl
  simp only [Try.ntmps27, List.size_toArray, List.length_cons, List.length_nil, Nat.reduceAdd, Nat.reduceSub, Array.replicate_succ, Array.replicate_zero, List.push_toArray, List.append_toArray, List.nil_append, List.cons_append]
  gi_wp2_with (refine ⟨trivial, ?_⟩; gi_at_call 31; refine (levels_in (n - 1) k g _ _).mono ?_; rintro e w' ⟨rfl, rfl⟩)
  obtain ⟨W3, hW3, hsz, p0, p1, p2, p3, hB3⟩ := heap_four w (.cells #[.int .i64 k, .int .i64 g, .slice A N c] 31) (.cells #[.func (.func 28) #[hv k2 g2 (.slice A2 N2 c2)] #[]] 61) (.cells #[.bool false] 4) (.cells #[.int .i64 k, .int .i64 g, .slice A N c] 31)
  rw [← hW3]
  have hL3 : Levs W3 w.heap.size (.slice A ls.length c) ls := HL.out.below hB3
  have seq := levels1_in (n - 1) (by omega) w.heap.size (w.heap.size + 1 + 1 + 1) k g ls (by have := HN.out; omega) W3 (by omega) A c hL3 (by rw [HN.out]; exact p3)
  have hlev := HN.out
  refine range_n rfl h1 (gf := 42) (lb := #[.pointer (some ⟨w.heap.size + 1 + 1 + 1, 0, none⟩)]) rfl trivial (enters_of Try.func42 (by kernel_rfl) rfl)
    seq (fun h k => h.trans k) (Kb.put (by omega)) (PxL.put (by omega)) (Below.refl _ _) (fun _ => rfl)
    (fun j W => (∀ i, i < j → lev lb i = lev ls i) ∧ Boxed W (w.heap.size + 1) 61 (.func (.func 28) #[hv k2 g2 (.slice A2 N2 c2)] #[]) ∧ Boxed W (w.heap.size + 1 + 1) 4 (.bool false) ∧ Below w.heap.size w W)
    (fun cd _ W => cd = .ret ∧ allSame ls lb = false ∧ Boxed W (w.heap.size + 1 + 1) 4 (.bool false) ∧ Below w.heap.size w W)
    (fun j W W' row hs hg hr => ⟨hs.1, hs.2.1.kept hg (fun e => by have := (hr _ e.symm).1; omega), hs.2.2.1.kept hg (fun e => by have := (hr _ e.symm).1; omega), hs.2.2.2.grown hg hs.2.2.2.size (fun j e => by have := (hr j e).1; omega)⟩)
    (fun cd j W W' row hs hg hr => ⟨hs.1, hs.2.1, hs.2.2.1.kept hg (fun e => by have := (hr _ e.symm).1; omega), hs.2.2.2.grown hg hs.2.2.2.size (fun j e => by have := (hr j e).1; omega)⟩)
    ⟨fun i hi => absurd hi (by omega), p1, p2, hB3⟩
    (fun x => { tmps := #[hv k g (.slice A N c), .func (.func 28) #[hv k2 g2 (.slice A2 N2 c2)] #[], .pointer (some ⟨w.heap.size, 0, none⟩), .pointer (some ⟨w.heap.size + 1, 0, none⟩), .pointer (some ⟨w.heap.size + 1 + 1, 0, none⟩), .int .i64 (x.i : Int), .slice x.A x.n x.c, hv k g (.slice A N c),
      .func (.func 42) #[] #[.pointer (some ⟨w.heap.size + 1 + 1 + 1, 0, none⟩)], .int .i64 (x.i : Int), .slice x.A x.n x.c, undef, undef, undef, undef, undef], defers := [] }) ?assign ?body ?done ?stop
  case assign =>
    intro l x W K hK
    gi_wp2
    exact hK
  case body =>
    rintro l j x W ⟨hall, hf, hr, hB⟩ ⟨hj, hx1, hx2, hx3⟩
    rw [hx1]
    rw [hx2] at hx3 ⊢
    generalize x.A = Ax at *
    generalize x.c = cx at *
    have hc := hf.cell
    have hrc := hr.cell
    have hrf := hr.frozen
    have hW : w.heap.size ≤ W.heap.size := hB.size
    have hhas := has_any k2 g2 lb j (lev ls j) (HHL.out j) W A2 Ax c2 cx (HLB.out.grow hB) (hx3.mono hW)
    obtain ⟨m, hm⟩ : ∃ m, (lev ls j).length = m := ⟨_, rfl⟩
    rw [hm, HN2.out] at hhas
    rw [hm]
    obtain ⟨q, hq⟩ : ∃ q, decide (lev lb j = lev ls j) = q := ⟨_, rfl⟩
    rw [hq] at hhas
    have HAS := Lib.hid hhas
    have HQ := Lib.hid hq
    have HALL := Lib.hid hall
    have HF := Lib.hid hf
    have HR := Lib.hid hr
    have HB := Lib.hid hB
    have HJ := Lib.hid hj
    clear hhas hq hall hf hr hB hm hx1 hx2 hx3 seq p0 p1 p2 p3 hL3 hj
    cases q with
    | true =>
      gi_wp2_with (refine ⟨trivial, fun _ => (by omega), ?_⟩; refine (callsIn_round l (callsIn_wide.2 HAS.out)).mono ?_; rintro e w' ⟨rfl, hb⟩)
      refine ⟨⟨hb.size, fun k o _ hk ho => (hb.block k (Array.getElem?_eq_some_iff.1 hk).1).trans hk⟩, ⟨hb.size, fun b hbb => hb.block b (by omega)⟩, ?_, (hb.block _ HF.out.lt).trans HF.out, (hb.block _ HR.out.lt).trans HR.out, thn HB.out hb⟩
      intro i hi
      rcases Nat.lt_or_ge i j with h | h
      · exact HALL.out i h
      · have e : i = j := by omega
        rw [e]
        exact of_decide_eq_true HQ.out
    | false =>
      gi_wp2_with (refine ⟨trivial, fun _ => (by omega), ?_⟩; refine (callsIn_round l (callsIn_wide.2 HAS.out)).mono ?_; rintro e w' ⟨rfl, hb⟩; have hr2 : Boxed w' (w.heap.size + 1 + 1) 4 (.bool false) := (hb.block _ HR.out.lt).trans HR.out; have hrc2 := hr2.cell; have hrf2 := hr2.frozen)
      refine ⟨KeepsFrom.trans (Y := w') ⟨hb.size, fun k o _ hk ho => (hb.block k (Array.getElem?_eq_some_iff.1 hk).1).trans hk⟩ ((KeepsOthers.setCell _ _ _).from _), rfl, ?_, hr2.set _, (thn HB.out hb).setCell (p := ⟨w.heap.size + 1 + 1, 0, none⟩) (by simp; omega) _⟩
      unfold allSame
      rw [decide_eq_false_iff_not]
      intro hh
      have := of_decide_eq_false HQ.out
      exact this (hh j HJ.out)
  case done =>
    rintro D _ W hD rfl ⟨hall, hf, hr, hB⟩ hK
    have hrc := hr.cell
    have hrf := hr.frozen
    have hne : w.heap.size + 1 + 1 ≠ D := by omega
    have hK2 : (W.setCell ⟨w.heap.size + 1 + 1, 0, none⟩ (.bool true)).heap[D]? = some (.deferred (some [])) := (Below.heap_setCell _ _ _ _ (Ne.symm hne)).trans hK
    have hr2 : Boxed ((W.setCell ⟨w.heap.size + 1 + 1, 0, none⟩ (.bool true)).putObj D (.deferred none)) (w.heap.size + 1 + 1) 4 (.bool true) := (World.putObj_heap_other hne).trans (hr.set _)
    have hall2 : allSame ls lb = true := by unfold allSame; rw [decide_eq_true_iff]; exact hall
    have HA2 := Lib.hid hall2
    clear hall hall2
    gi_wp2
    refine ⟨by simp, .inl ⟨_, _, rfl, run_takeDeferred hK2, ?_⟩⟩
    refine ⟨.bool true, by simp [results, Try.results27, go_sem, hr2.cell], by rw [HA2.out], ?_⟩
    exact (hB.setCell (p := ⟨w.heap.size + 1 + 1, 0, none⟩) (by simp; omega) _).trans (belowK_b (w := w) (Nat.le_refl _) _ D _ _ (by omega) hK2 rfl rfl)
  case stop =>
    rintro D c j W hD ⟨rfl, hall, hr, hB⟩ hK
    have hne : w.heap.size + 1 + 1 ≠ D := by omega
    have hr2 : Boxed (W.putObj D (.deferred none)) (w.heap.size + 1 + 1) 4 (.bool false) := (World.putObj_heap_other hne).trans hr
    have HA2 := Lib.hid hall
    clear hall
    gi_wp2
    refine ⟨by simp, .inl ⟨_, _, rfl, run_takeDeferred hK, ?_⟩⟩
    refine ⟨.bool false, by simp [results, Try.results27, go_sem, hr2.cell], by rw [HA2.out], ?_⟩
    exact hB.trans (belowK_b (w := w) (Nat.le_refl _) _ D _ _ (by omega) hK rfl rfl)

end Go.Proofs.Ytafcgfhkeceiaaa
