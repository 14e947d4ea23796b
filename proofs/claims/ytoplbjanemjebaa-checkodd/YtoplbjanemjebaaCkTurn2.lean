/- The contract of check.inTurn. -/
import Derived.Test.YtoplbjanemjebaaCkTurn
namespace Go.Proofs.Ytoplbjanemjebaa
open Go.RowKit Go.Shelf Go.Proofs.Rw Go.Proofs.Lh Go.Proofs.Rn

attribute [local go_sem] Oper.semAt_some

theorem drop_step {ls : Lv} {j : Nat} (hj : j < ls.length) : allOf (ls.drop (ls.length - (j + 1))) = allOf (ls.drop (ls.length - j)) ++ lev ls (ls.length - 1 - j) := by
  rw [show ls.length - j = ls.length - (j + 1) + 1 by omega, allOf_drop (by omega), show ls.length - 1 - j = ls.length - (j + 1) by omega]
theorem drop_zero (ls : Lv) : allOf (ls.drop (ls.length - 0)) = [] := by rw [Nat.sub_zero, List.drop_length]; rfl
theorem drop_end (ls : Lv) : allOf (ls.drop (ls.length - ls.length)) = allOf ls := by rw [Nat.sub_self, List.drop_zero]

/-- How things stand within a round: W is where it began. -/
structure TS (w W wr : World) (P : List Sp) : Prop where
  turn : inTurn 0 P = true
  res : Boxed wr (w.heap.size + 1) 4 (.bool false)
  wk : Boxed wr (w.heap.size + 1 + 1) 75 (.int .u64 (behind P : Nat))
  bel : Below w.heap.size w wr
  kf : KeepsFrom (w.heap.size + 4) W wr
  kx : Kx w.heap.size (w.heap.size + 1 + 1 + 1) W wr
theorem keeps_alloc {B : Nat} {W X : World} (h : KeepsFrom B W X) (o : Obj) : KeepsFrom B W (X.alloc o) :=
  KeepsFrom.trans h ⟨by simp, fun k o' _ hk _ => (Below.heap_alloc _ _ _ (lt_of hk)).trans hk⟩
theorem TS.next {w W wr : World} {P : List Sp} (h : TS w W wr P) (hx : w.heap.size + 1 + 1 + 1 < wr.heap.size) (t0 t1 : Nat) (o1 o2 : Obj) (hn : nextB (behind P) (t0, t1) = true) :
    TS w W (((wr.alloc o1).setCell ⟨w.heap.size + 1 + 1, 0, none⟩ (.int .u64 (t1 : Int))).alloc o2) (P ++ [(t0, t1)]) := by
  refine ⟨by rw [turn_snoc h.turn, hn], ?_, ?_, ?_, ?_, ?_⟩
  · refine Boxed.alloc ?_ o2
    refine (Below.heap_setCell _ _ _ _ (show w.heap.size + 1 ≠ w.heap.size + 1 + 1 by omega)).trans (h.res.alloc o1)
  · refine Boxed.alloc ?_ o2
    rw [behind_snoc]
    exact (h.wk.alloc o1).set _
  · exact ((h.bel.alloc h.bel.size _).setCell (p := ⟨w.heap.size + 1 + 1, 0, none⟩) (by simp; omega) _).alloc (by have := h.bel.size; simp [World.setCell]; omega) _
  · refine keeps_alloc (KeepsFrom.trans (keeps_alloc h.kf o1) ((KeepsOthers.setCell _ _ _).from _)) o2
  · refine h.kx.trans ⟨⟨by simp [World.setCell]; omega, fun b hb => ?_⟩, ?_⟩
    · rw [Below.heap_alloc _ _ _ (by simp [World.setCell]; omega), Below.heap_setCell _ _ _ _ (by simp; omega), Below.heap_alloc _ _ _ (by omega)]
    · rw [Below.heap_alloc _ _ _ (by simp [World.setCell]; omega), Below.heap_setCell _ _ _ _ (by simp), Below.heap_alloc _ _ _ (by omega)]
theorem TS.no {w W wr : World} {P : List Sp} (h : TS w W wr P) (hx : w.heap.size + 1 + 1 + 1 < wr.heap.size) (t1 : Nat) (o1 o2 : Obj) :
    Boxed (((wr.alloc o1).setCell ⟨w.heap.size + 1 + 1, 0, none⟩ (.int .u64 (t1 : Int))).alloc o2) (w.heap.size + 1) 4 (.bool false) ∧
    Below w.heap.size w (((wr.alloc o1).setCell ⟨w.heap.size + 1 + 1, 0, none⟩ (.int .u64 (t1 : Int))).alloc o2) ∧
    KeepsFrom (w.heap.size + 4) W (((wr.alloc o1).setCell ⟨w.heap.size + 1 + 1, 0, none⟩ (.int .u64 (t1 : Int))).alloc o2) := by
  refine ⟨?_, ?_, ?_⟩
  · refine Boxed.alloc ?_ o2
    refine (Below.heap_setCell _ _ _ _ (show w.heap.size + 1 ≠ w.heap.size + 1 + 1 by omega)).trans (h.res.alloc o1)
  · exact ((h.bel.alloc h.bel.size _).setCell (p := ⟨w.heap.size + 1 + 1, 0, none⟩) (by simp; omega) _).alloc (by have := h.bel.size; simp [World.setCell]; omega) _
  · refine keeps_alloc (KeepsFrom.trans (keeps_alloc h.kf o1) ((KeepsOthers.setCell _ _ _).from _)) o2

set_option maxRecDepth 100000 in
set_option maxHeartbeats 4000000 in
theorem inTurnR_in (n : Nat) (hn : 3 ≤ n) (k g : Int) (ls : Lv) (hl : ls.length ≤ 1000000) (hlv : ∀ i, (lev ls i).length ≤ 1000000) (w : World) (A : Option Addr) (c : Nat) (h : Reads w w.heap.size (.slice A ls.length c) ls) :
    CallsIn Fence.wide n Try.prog 41 #[hv k g (.slice A ls.length c)] w fun e w' => e = .returned (.bool (inTurn 0 (allOf ls))) ∧ Below w.heap.size w w' := by
  have h1 : 1 ≤ n := by omega
  have HL := Lib.hid h
  have HLV := Lib.hid hlv
  clear h hlv
  obtain ⟨N, hN⟩ : ∃ N, ls.length = N := ⟨_, rfl⟩
  rw [hN] at hl ⊢
  have HN := Lib.hid hN
  clear hN
  refine callsIn_of_wp_marks Try.func41 rfl trivial ?_ rfl
  simp only [Try.ntmps41, List.size_toArray, List.length_cons, List.length_nil, Nat.reduceAdd, Nat.reduceSub, Array.replicate_succ, Array.replicate_zero, List.push_toArray, List.append_toArray, List.nil_append, List.cons_append]
  gi_wp2_with (refine ⟨trivial, ?_⟩; gi_at_call 48; refine (back_in (n - 1) A N c _).mono ?_; rintro e w' ⟨rfl, rfl⟩)
  obtain ⟨W3, hW3, hsz, p0, p1, p2, p3, hB3⟩ := heap_four w (.cells #[.int .i64 k, .int .i64 g, .slice A N c] 32) (.cells #[.bool false] 4) (.cells #[.int .u64 0] 75) (.cells #[.slice A N c] 22)
  rw [← hW3]
  have hL3 : Reads W3 w.heap.size (.slice A ls.length c) ls := HL.out.below hB3
  have seq := back1_in (n - 1) (by omega) w.heap.size (w.heap.size + 1 + 1 + 1) ls (by have := HN.out; omega) W3 (by omega) A c hL3 (by rw [HN.out]; exact p3)
  have hlev := HN.out
  refine range_n rfl h1 (gf := 54) (lb := #[.pointer (some ⟨w.heap.size + 1 + 1 + 1, 0, none⟩)]) rfl trivial (enters_of Try.func54 (by kernel_rfl) rfl)
    seq (fun h k => h.trans k) (Kx.put (by omega) (by omega)) (PxB.put (by omega)) (Below.refl _ _) (fun _ => rfl)
    (fun j W => inTurn 0 (allOf (ls.drop (ls.length - j))) = true ∧ Boxed W (w.heap.size + 1) 4 (.bool false) ∧ Boxed W (w.heap.size + 1 + 1) 75 (.int .u64 (behind (allOf (ls.drop (ls.length - j))) : Nat)) ∧ Below w.heap.size w W ∧ w.heap.size + 1 + 1 + 1 < W.heap.size)
    (fun cd _ W => cd = .ret ∧ inTurn 0 (allOf ls) = false ∧ Boxed W (w.heap.size + 1) 4 (.bool false) ∧ Below w.heap.size w W)
    (fun j W W' row hs hg hr => ⟨hs.1, hs.2.1.kept hg (fun e => by have := (hr _ e.symm).1; omega), hs.2.2.1.kept hg (fun e => by have := (hr _ e.symm).1; omega), hs.2.2.2.1.grown hg hs.2.2.2.1.size (fun j e => by have := (hr j e).1; omega), Nat.lt_of_lt_of_le hs.2.2.2.2 hg.size⟩)
    (fun cd j W W' row hs hg hr => ⟨hs.1, hs.2.1, hs.2.2.1.kept hg (fun e => by have := (hr _ e.symm).1; omega), hs.2.2.2.grown hg hs.2.2.2.size (fun j e => by have := (hr j e).1; omega)⟩)
    ⟨by rw [drop_zero]; rfl, p1, by rw [drop_zero]; exact p2, hB3, by omega⟩
    (fun x => { tmps := #[hv k g (.slice A N c), .pointer (some ⟨w.heap.size, 0, none⟩), .pointer (some ⟨w.heap.size + 1, 0, none⟩), .pointer (some ⟨w.heap.size + 1 + 1, 0, none⟩), undef, .slice x.A x.n x.c, undef, undef, .pointer (some ⟨w.heap.size, 2, none⟩), .slice A N c,
      .func (.func 54) #[] #[.pointer (some ⟨w.heap.size + 1 + 1 + 1, 0, none⟩)], .int .i64 (x.i : Int), .slice x.A x.n x.c, undef, undef, undef, undef, undef, undef, undef, undef, undef, undef], defers := [] }) ?assign ?body ?done ?stop
  case assign =>
    intro l x W K hK
    gi_wp2
    exact hK
  case body =>
    rintro l j x W ⟨hT, hr, hwk, hB, hsz3⟩ ⟨hj, hx1, hx2, hx3⟩
    have hstep := drop_step hj
    obtain ⟨suf, hsuf⟩ := allOf_pre ls (ls.length - (j + 1))
    rw [hstep] at hsuf
    have hm6 := HLV.out (ls.length - 1 - j)
    generalize allOf (ls.drop (ls.length - j)) = P at *
    generalize lev ls (ls.length - 1 - j) = L at *
    rw [hx2] at hx3
    rw [hx2]
    generalize x.A = Ax at *
    generalize x.c = cx at *
    generalize x.i = xi at *
    have ts0 : TS w W W P := ⟨hT, hr, hwk, hB, ⟨Nat.le_refl _, fun _ _ _ hk _ => hk⟩, Kx.refl _ _ _⟩
    obtain ⟨m, hm⟩ : ∃ m, L.length = m := ⟨_, rfl⟩
    rw [hm] at hx3 hm6 ⊢
    have HT0 := Lib.hid ts0
    have HX3 := Lib.hid hx3
    have HM := Lib.hid hm
    have HS := Lib.hid hsuf
    have HSZ := Lib.hid hsz
    have HST := Lib.hid hstep
    clear hT hr hwk hx1 hx2 hx3 ts0 hstep hsuf hm seq p0 p1 p2 p3 hL3 hj hW3 hB3 hB hsz
    gi_wp2
    gi_loopw [15] (fun p wr => ∃ i : Nat, p = .int .i64 (i : Int) ∧ i ≤ m ∧ Hid (TS w W wr (P ++ L.take i)) ∧ w.heap.size + 1 + 1 + 1 < wr.heap.size) (fun p _ => m - (intOf p).toNat)
    case atStart => exact ⟨0, rfl, Nat.zero_le _, Lib.hid (by rw [List.take_zero, List.append_nil]; exact HT0.out), hsz3⟩
    case round =>
      obtain ⟨i, rfl, him, HTS, hszr⟩ := hrel
      by_cases hlt : i < m
      · have hil : i < L.length := by rw [HM.out]; exact hlt
        obtain ⟨b2, off2, rfl, hb2, -, hc2⟩ := sp_at (HX3.out.keep HTS.out.kx.1.block) (by omega)
        obtain ⟨e0, e1⟩ := hc2 i hil
        obtain ⟨y, hy⟩ : ∃ y, L[i] = y := ⟨_, rfl⟩
        rw [hy] at e0 e1
        have htk : P ++ L.take (i + 1) = (P ++ L.take i) ++ [y] := by rw [List.take_succ_eq_append_getElem hil, hy, List.append_assoc]
        obtain ⟨t0, t1⟩ := y
        dsimp only at e0 e1
        generalize P ++ L.take i = Q at *
        have hbb : b2 < wr.heap.size := by omega
        have hnx := wnext_any (behind Q) t0 t1 (w.heap.size + 1 + 1) (wr.alloc (.cells #[.int .u64 (t0 : Int), .int .u64 (t1 : Int)] 44)) (HTS.out.wk.alloc _)
        obtain ⟨q, hq⟩ : ∃ q, nextB (behind Q) (t0, t1) = q := ⟨_, rfl⟩
        rw [hq] at hnx
        have HNX := Lib.hid hnx
        have HQ := Lib.hid hq
        have HTK := Lib.hid htk
        clear hnx hq htk hc2 hy hil
        cases q with
        | true =>
          gi_wp2_with (refine ⟨trivial, fun _ => (by omega), ?_⟩; refine (callsIn_round l (callsIn_wide.2 HNX.out)).mono ?_; rintro e w' ⟨rfl, rfl⟩)
          go_roundw
          case rel => exact ⟨i + 1, by go_num, hlt, Lib.hid (by rw [HTK.out]; exact HTS.out.next hszr t0 t1 _ _ HQ.out), by simp [World.setCell]; omega⟩
          case measure => simp [intOf]; omega
        | false =>
          obtain ⟨n1, n2, n3⟩ := HTS.out.no hszr t1 (.cells #[.int .u64 (t0 : Int), .int .u64 (t1 : Int)] 44) (.cells #[.int .u64 (t0 : Int), .int .u64 (t1 : Int)] 44)
          obtain ⟨W9, hW9⟩ : ∃ X, (((wr.alloc (.cells #[.int .u64 (t0 : Int), .int .u64 (t1 : Int)] 44)).setCell ⟨w.heap.size + 1 + 1, 0, none⟩ (.int .u64 (t1 : Int))).alloc (.cells #[.int .u64 (t0 : Int), .int .u64 (t1 : Int)] 44)) = X := ⟨_, rfl⟩
          rw [hW9] at n1 n2 n3 HNX
          have hrc := n1.cell
          have hrf := n1.frozen
          have N1 := Lib.hid n1
          have N2 := Lib.hid n2
          have N3 := Lib.hid n3
          have HW9 := Lib.hid hW9
          clear n1 n2 n3 hW9
          gi_wp2_with (refine ⟨trivial, fun _ => (by omega), ?_⟩; refine (callsIn_round l (callsIn_wide.2 HNX.out)).mono ?_; rintro e w' ⟨rfl, rfl⟩)
          refine ⟨KeepsFrom.trans (by rw [HSZ.out]; exact N3.out) ((KeepsOthers.setCell _ _ _).from _), rfl, ?_, N1.out.set _, N2.out.setCell (p := ⟨w.heap.size + 1, 0, none⟩) (by simp) _⟩
          rw [HS.out]
          have e9 : P ++ L ++ suf = (Q ++ [(t0, t1)]) ++ (L.drop (i + 1) ++ suf) := by
            rw [← HTK.out]
            rw [List.append_assoc, List.append_assoc, ← List.append_assoc (L.take (i + 1)), List.take_append_drop]
          rw [e9]
          exact turn_pre (by rw [turn_snoc HTS.out.turn, HQ.out])
      · have e : i = m := by omega
        subst e
        gi_wp2
        have hTS := HTS.out
        rw [show L.take i = L by rw [← HM.out, List.take_length]] at hTS
        exact ⟨by rw [HSZ.out]; exact hTS.kf, hTS.kx, by rw [HST.out]; exact hTS.turn, hTS.res, by rw [HST.out]; exact hTS.wk, hTS.bel, hszr⟩
  case done =>
    rintro D _ W hD rfl ⟨hT, hr, hwk, hB, hsz3⟩ hK
    rw [drop_end] at hT
    have hrc := hr.cell
    have hrf := hr.frozen
    have hne : w.heap.size + 1 ≠ D := by omega
    have hK2 : (W.setCell ⟨w.heap.size + 1, 0, none⟩ (.bool true)).heap[D]? = some (.deferred (some [])) := (Below.heap_setCell _ _ _ _ (Ne.symm hne)).trans hK
    have hr2 : Boxed ((W.setCell ⟨w.heap.size + 1, 0, none⟩ (.bool true)).putObj D (.deferred none)) (w.heap.size + 1) 4 (.bool true) := (World.putObj_heap_other hne).trans (hr.set _)
    have HA2 := Lib.hid hT
    clear hT hwk
    gi_wp2
    refine ⟨by simp, .inl ⟨_, _, rfl, run_takeDeferred hK2, ?_⟩⟩
    refine ⟨.bool true, by simp [results, Try.results41, go_sem, hr2.cell], by rw [HA2.out], ?_⟩
    exact (hB.setCell (p := ⟨w.heap.size + 1, 0, none⟩) (by simp) _).trans (belowK_b (w := w) (Nat.le_refl _) _ D _ _ (by omega) hK2 rfl rfl)
  case stop =>
    rintro D c j W hD ⟨rfl, hall, hr, hB⟩ hK
    have hne : w.heap.size + 1 ≠ D := by omega
    have hr2 : Boxed (W.putObj D (.deferred none)) (w.heap.size + 1) 4 (.bool false) := (World.putObj_heap_other hne).trans hr
    have HA2 := Lib.hid hall
    clear hall
    gi_wp2
    refine ⟨by simp, .inl ⟨_, _, rfl, run_takeDeferred hK, ?_⟩⟩
    refine ⟨.bool false, by simp [results, Try.results41, go_sem, hr2.cell], by rw [HA2.out], ?_⟩
    exact hB.trans (belowK_b (w := w) (Nat.le_refl _) _ D _ _ (by omega) hK rfl rfl)

theorem inTurn_any (k g : Int) (ls : Lv) (hl : ls.length ≤ 1000000) (hlv : ∀ i, (lev ls i).length ≤ 1000000) (w : World) (A : Option Addr) (c : Nat) (h : Reads w w.heap.size (.slice A ls.length c) ls) :
    Calls Try.prog 41 #[hv k g (.slice A ls.length c)] w fun e w' => e = .returned (.bool (inTurn 0 (allOf ls))) ∧ Below w.heap.size w w' :=
  (callsIn_wide (n := 3)).1 (inTurnR_in 3 (by omega) k g ls hl hlv w A c h)

end Go.Proofs.Ytoplbjanemjebaa
