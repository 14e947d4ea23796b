/- replay.weights, its function that is ranged over, tooMuch. · Elements appended to a row of the call's own, at a step of a region that draws its order. · replay.lots: all buckets and events, by their ticks. · The document's: lumps, least. -/
import Derived.Test.YtpdhkpgnajfobaaJ12
import Derived.Test.YtpdhkpgnajfobaaJ13
import Derived.Deep.RegionLaw
section
/- replay.weights, its function that is ranged over, tooMuch. -/
namespace Go.Proofs.Lh
def wtsOf (evs : List Ev) (ms : List Hm) : List Nat := (ms.map fun m => tot m.2.2) ++ evs.map fun e => e.2.2
theorem wts_sum (evs : List Ev) (ms : List Hm) : (wtsOf evs ms).sum = totM ms + totE evs := by
  unfold wtsOf totM totE
  rw [List.sum_append]
theorem wts_len (evs : List Ev) (ms : List Hm) : (wtsOf evs ms).length = ms.length + evs.length := by
  unfold wtsOf
  rw [List.length_append, List.length_map, List.length_map]
theorem take_sum {ws : List Nat} {k x : Nat} (h : ws[k]? = some x) : (ws.take (k + 1)).sum = (ws.take k).sum + x := by
  obtain ⟨hl, e⟩ := List.getElem?_eq_some_iff.1 h
  rw [List.take_succ_eq_append_getElem hl, List.sum_append, e]
  simp
theorem take_sum_le (ws : List Nat) (k : Nat) : (ws.take k).sum ≤ ws.sum := by
  have e : ws.sum = ((ws.take k) ++ (ws.drop k)).sum := by rw [List.take_append_drop]
  rw [e, List.sum_append]
  omega
end Go.Proofs.Lh
namespace Go.Proofs.Ytpdhkpgnajfobaa
open Go.RowKit Go.Shelf Go.Proofs.Rw Go.Proofs.Lh Go.Proofs.Rn

attribute [local go_sem] Oper.semAt_some

abbrev encW (x : Nat) : Array Value := #[.int .u64 (x : Int)]
def PxW (ws : List Nat) (k : Nat) (x : Nat) (_ : World) : Prop := ws[k]? = some x

theorem weights_any (A A2 : Option Addr) (N N2 c c2 : Nat) (w : World) :
    Calls Try.prog 79 #[.slice A2 N2 c2, .slice A N c] w fun e w' => e = .returned (.func (.func 98) #[] #[.pointer (some ⟨w.heap.size + 1, 0, none⟩), .pointer (some ⟨w.heap.size, 0, none⟩)]) ∧
      w' = (w.alloc (.cells #[.slice A2 N2 c2] 61)).alloc (.cells #[.slice A N c] 62) := by
  go_enter Try.func79, Try.ntmps79
  go_wp2
  go_ret
  exact ⟨rfl, rfl⟩

set_option maxRecDepth 100000 in
set_option maxHeartbeats 2000000 in
theorem weights1_in (n : Nat) (hn : 3 ≤ n) (B be bh : Nat) (xs : List Hx) (evs : List Ev) (hl : xs.length ≤ 1000000) (hle : evs.length ≤ 1000000) (hm : ∀ x ∈ xs, x.ls.length ≤ 60 ∧ tot x.ls ≤ 4611686018427387904) (w : World) (hB : B ≤ w.heap.size) (A A2 : Option Addr) (c c2 : Nat)
    (h : Hs w B (.slice A xs.length c) xs) (h2 : Lies evL w B (.slice A2 evs.length c2) evs) (hbe : w.heap[be]? = some (.cells #[.slice A2 evs.length c2] 61)) (hbh : w.heap[bh]? = some (.cells #[.slice A xs.length c] 62)) (heB : be < B) (_ : bh < B) :
    SeqN Fence.wide n Try.prog 98 #[.pointer (some ⟨bh, 0, none⟩), .pointer (some ⟨be, 0, none⟩)] encW (PxW (wtsOf evs (xs.map Hx.m))) (Kb B) (fun m => m = (wtsOf evs (xs.map Hx.m)).length) w := by
  intro l J Jx W hW hJ hJx hY hJ0
  have h1n : 1 ≤ n := by omega
  have hH := h.keep (w' := W) fun b hb => hW.block b (by omega)
  have hE := h2.keep (w' := W) fun b hb => hW.block b (by omega)
  have hce : W.heap[be]? = some (.cells #[.slice A2 evs.length c2] 61) := (hW.block be (by omega)).trans hbe
  have hch : W.cell? ⟨bh, 0, none⟩ = some (.slice A xs.length c) := by
    have e := (hW.block bh (lt_of hbh)).trans hbh
    simp [World.cell?, e]
  have hbl : bh < W.heap.size := Nat.lt_of_lt_of_le (lt_of hbh) hW.size
  have hw0 : ∀ j (hj : j < xs.length), (wtsOf evs (xs.map Hx.m))[j]? = some (tot xs[j].ls) := by
    intro j hj
    unfold wtsOf
    rw [List.getElem?_append_left (by simpa using hj)]
    simp [hj, Hx.m]
  have hw1 : ∀ j (hj : j < evs.length), (wtsOf evs (xs.map Hx.m))[xs.length + j]? = some evs[j].2.2 := by
    intro j hj
    unfold wtsOf
    rw [List.getElem?_append_right (by simp)]
    simp [hj]
  have hwl : (wtsOf evs (xs.map Hx.m)).length = xs.length + evs.length := by rw [wts_len]; simp
  obtain ⟨ws, hws⟩ : ∃ ws, wtsOf evs (xs.map Hx.m) = ws := ⟨_, rfl⟩
  rw [hws] at hw0 hw1 hwl hY ⊢
  obtain ⟨N, hN⟩ : ∃ N, xs.length = N := ⟨_, rfl⟩
  obtain ⟨N2, hN2⟩ : ∃ N, evs.length = N := ⟨_, rfl⟩
  rw [hN] at hch hl hH hw1 hwl
  rw [hN2] at hce hle hE hwl
  have HN := Lib.hid hN
  have HN2 := Lib.hid hN2
  have HJ := Lib.hid hJ
  have HY := Lib.hid hY
  have HH := Lib.hid hH
  have HE := Lib.hid hE
  have HW := Lib.hid hW
  have HM := Lib.hid hm
  have HW0 := Lib.hid hw0
  have HW1 := Lib.hid hw1
  have HWL := Lib.hid hwl
  have HCE := Lib.hid hce
  clear hJ hJx hY h h2 hbe hbh hN hN2 hW hm hw0 hw1 hwl hce hH hE
  refine callsIn_of_wp Try.func98 rfl trivial ?_ rfl
  simp only [Try.ntmps98, List.size_toArray, List.length_cons, List.length_nil, Nat.reduceAdd, Nat.reduceSub, Array.replicate_succ, Array.replicate_zero, List.push_toArray, List.append_toArray, List.nil_append, List.cons_append]
  gi_wp2
  gi_loopw [10] (fun p wr => ∃ j : Nat, p = .int .i64 j ∧ j ≤ N ∧ J j wr ∧ Kb B W wr) (fun p _ => N - (intOf p).toNat)
  case atStart => exact ⟨0, rfl, Nat.zero_le _, hJ0, Kb.refl _ _⟩
  case round =>
    obtain ⟨j, rfl, hjle, hJs, hK⟩ := hrel
    have hsz : B ≤ wr.heap.size := Nat.le_trans hB (Nat.le_trans HW.out.size hK.size)
    by_cases hlt : j < N
    · have hjl : j < xs.length := by rw [HN.out]; exact hlt
      obtain ⟨b2, off2, rfl, hb2, -, hc2⟩ := (HH.out.keep hK.block).at (by omega)
      obtain ⟨e0, e1, e2, e3⟩ := hc2 j hjl
      have hpx := HW0.out j hjl
      obtain ⟨hm1, hm2⟩ := HM.out xs[j] (List.getElem_mem hjl)
      have hal := (Below.refl wr.heap.size wr).alloc (Nat.le_refl _) (.cells #[.int .i64 xs[j].k, .int .i64 xs[j].g, .slice xs[j].A xs[j].ls.length xs[j].c] 32)
      have htot := total_any xs[j].k xs[j].g xs[j].ls hm1 hm2 _ xs[j].A xs[j].c ((e3.mono hsz).grow hal)
      generalize xs[j].k = t0 at *
      generalize xs[j].g = t1 at *
      generalize xs[j].A = t2 at *
      generalize tot xs[j].ls = t5 at *
      generalize xs[j].ls.length = t3 at *
      generalize xs[j].c = t4 at *
      have hbb : b2 < wr.heap.size := by omega
      have HTOT := Lib.hid htot
      have HAL := Lib.hid hal
      have HPX := Lib.hid hpx
      have HK := Lib.hid hK
      clear htot hal hpx hc2 e3 hm1 hm2 hch hJ0 hK
      gi_wp2_with (refine ⟨trivial, ?_⟩; gi_at_call 14; refine (callsIn_wide.2 HTOT.out).mono ?_; rintro e w2 ⟨rfl, hb2⟩; have hB2 := thn HAL.out hb2; have hJ2 := HJ.out _ _ _ hJs hB2; obtain ⟨fn, tmps, assign, body, hy, hR⟩ := HY.out j t5 w2 hJ2 HPX.out; have HB2 := Lib.hid hB2; have HR := Lib.hid hR; dsimp only [encW] at hy; clear hB2 hb2 hJ2 hR)
      refine HR.out.mono ?_
      rintro e W3 (⟨rfl, hJ3, hk3⟩ | ⟨rfl, hJx3⟩)
      · gi_wp2
        go_roundw
        case rel => exact ⟨j + 1, by go_num, hlt, hJ3, (HK.out.trans (Kb.of_below HB2.out hsz)).trans hk3⟩
        case measure => simp [intOf]; omega
      · gi_wp2
        refine bodyPost_ret (results_none rfl _ _ _) rfl ?_
        exact ⟨⟨_, rfl⟩, .inr ⟨_, hJx3⟩⟩
    · have e : j = N := by omega
      subst e
      have hce : wr.heap[be]? = some (.cells #[.slice A2 N2 c2] 61) := (hK.block be heB).trans HCE.out
      have hcc : wr.cell? ⟨be, 0, none⟩ = some (.slice A2 N2 c2) := by simp [World.cell?, hce]
      have hbe := lt_of hce
      have HK := Lib.hid hK
      have HLE := Lib.hid hjle
      clear hce hch hJ0 hK hlt hjle
      rename World => wo
      gi_wp2
      gi_loopw [22] (fun p wr => ∃ i : Nat, p = .int .i64 i ∧ i ≤ N2 ∧ J (j + i) wr ∧ Kb B W wr) (fun p _ => N2 - (intOf p).toNat)
      case atStart => exact ⟨0, rfl, Nat.zero_le _, hJs, HK.out⟩
      case round =>
        obtain ⟨i, rfl, hile, hJr, hK⟩ := hrel
        have hsz : B ≤ wr.heap.size := Nat.le_trans hB (Nat.le_trans HW.out.size hK.size)
        by_cases hlt : i < N2
        · have hil : i < evs.length := by rw [HN2.out]; exact hlt
          obtain ⟨b2, off2, rfl, hb2, -, hc2⟩ := ev_at (HE.out.keep hK.block) (by omega)
          obtain ⟨e0, e1, e2⟩ := hc2 i hil
          have hpx := HW1.out i hil
          generalize evs[i].1 = t0 at *
          generalize evs[i].2.1 = t1 at *
          generalize evs[i].2.2 = t2 at *
          have hbb : b2 < wr.heap.size := by omega
          have hal := (Below.refl wr.heap.size wr).alloc (Nat.le_refl _) (.cells #[.int .u64 (t0 : Int), .int .u64 (t1 : Int), .int .u64 (t2 : Int)] 68)
          obtain ⟨fn, tmps, assign, body, hy, hR⟩ := HY.out (j + i) t2 _ (HJ.out _ _ _ hJr hal) hpx
          have HAL := Lib.hid hal
          have HK := Lib.hid hK
          have HR := Lib.hid hR
          dsimp only [encW] at hy
          clear hal hpx hc2 hK hR
          gi_wp2
          refine HR.out.mono ?_
          rintro e W3 (⟨rfl, hJ3, hk3⟩ | ⟨rfl, hJx3⟩)
          · gi_wp2
            go_roundw
            case rel => exact ⟨i + 1, by go_num, hlt, hJ3, (HK.out.trans (Kb.of_below HAL.out hsz)).trans hk3⟩
            case measure => simp [intOf]; omega
          · gi_wp2
            refine bodyPost_ret (results_none rfl _ _ _) rfl ?_
            exact ⟨⟨_, rfl⟩, .inr ⟨_, hJx3⟩⟩
        · have e : i = N2 := by omega
          subst e
          gi_wp2
          refine bodyPost_end (results_none rfl _ _ _) rfl ?_
          exact ⟨⟨_, rfl⟩, .inl ⟨_, HWL.out.symm, hJr⟩⟩

/-- What stands in memory behind k weights. -/
def RoomI (w : World) (ws : List Nat) (k : Nat) (W : World) : Prop :=
  (ws.take k).sum ≤ 4503599627370496 ∧ Boxed W (w.heap.size + 1) 41 (.int .u64 ((4503599627370496 - (ws.take k).sum : Nat) : Int)) ∧ Boxed W w.heap.size 4 (.bool false) ∧ Below w.heap.size w W
def RoomX (w : World) (ws : List Nat) (cd : Code) (_ : Nat) (W : World) : Prop :=
  cd = .ret ∧ 4503599627370496 < ws.sum ∧ Boxed W w.heap.size 4 (.bool true) ∧ Below w.heap.size w W

set_option maxRecDepth 100000 in
set_option maxHeartbeats 2000000 in
theorem tooR_in (n : Nat) (hn : 3 ≤ n) (ws : List Nat) (hw : ∀ x ∈ ws, x < 18446744073709551616) (lb : Array Value) (w : World) (hseq : SeqN Fence.wide (n - 1) Try.prog 98 lb encW (PxW ws) (Kb w.heap.size) (fun m => m = ws.length) w) :
    CallsIn Fence.wide n Try.prog 78 #[.func (.func 98) #[] lb] w fun e w' => e = .returned (.bool (decide (4503599627370496 < ws.sum))) ∧ Below w.heap.size w w' := by
  have h1 : 1 ≤ n := by omega
  refine callsIn_of_wp_marks Try.func78 rfl trivial ?_ rfl
  simp only [Try.ntmps78, List.size_toArray, List.length_cons, List.length_nil, Nat.reduceAdd, Nat.reduceSub, Array.replicate_succ, Array.replicate_zero, List.push_toArray, List.append_toArray, List.nil_append, List.cons_append]
  gi_wp2
  obtain ⟨W3, hW3, hsz, p0, p1, hB3⟩ := heap_two w (.cells #[.bool false] 4) (.cells #[.int .u64 4503599627370496] 41)
  rw [← hW3]
  refine range_n rfl h1 (gf := 98) (lb := lb) rfl trivial (enters_of Try.func98 (by kernel_rfl) rfl)
    hseq (fun h k => h.trans k) (Kb.put (by omega)) (fun _ _ _ _ _ _ _ _ _ h => h) hB3 (fun _ => rfl)
    (RoomI w ws) (RoomX w ws)
    (fun j W W' row hs hg hr => ⟨hs.1, hs.2.1.kept hg (fun e => by have := (hr _ e.symm).1; omega), hs.2.2.1.kept hg (fun e => by have := (hr _ e.symm).1; omega), hs.2.2.2.grown hg hs.2.2.2.size (fun j e => by have := (hr j e).1; omega)⟩)
    (fun cd j W W' row hs hg hr => ⟨hs.1, hs.2.1, hs.2.2.1.kept hg (fun e => by have := (hr _ e.symm).1; omega), hs.2.2.2.grown hg hs.2.2.2.size (fun j e => by have := (hr j e).1; omega)⟩)
    ⟨by simp, p1, p0, hB3⟩
    (fun x => { tmps := #[.func (.func 98) #[] lb, undef, .pointer (some ⟨w.heap.size, 0, none⟩), .pointer (some ⟨w.heap.size + 1, 0, none⟩), .int .u64 (x : Int), .func (.func 98) #[] lb, .int .u64 (x : Int), undef, undef, undef, undef, undef, undef], defers := [] }) ?assign ?body ?done ?stop
  case assign =>
    intro l x W K hK
    gi_wp2
    exact hK
  case body =>
    rintro l j x W ⟨hs, hr, hf, hB⟩ hx
    have hx' : ws[j]? = some x := hx
    have hxb := hw x (List.mem_of_getElem? hx')
    have hts := take_sum hx'
    have htl := take_sum_le ws (j + 1)
    have cr := hr.cell
    have fr := hr.frozen
    have lr := hr.lt
    have cf := hf.cell
    have ff := hf.frozen
    have lf := hf.lt
    obtain ⟨s, hse⟩ : ∃ s, (ws.take j).sum = s := ⟨_, rfl⟩
    rw [hse] at hs hr hts cr
    obtain ⟨r, hre⟩ : ∃ r, 4503599627370496 - s = r := ⟨_, rfl⟩
    rw [hre] at hr cr
    have HR := Lib.hid hr
    have HF := Lib.hid hf
    have HB := Lib.hid hB
    have HTS := Lib.hid hts
    have HTL := Lib.hid htl
    have HS := Lib.hid hs
    have HRE := Lib.hid hre
    clear hr hf hB hts htl hs hre hse hx hx' hseq p0 p1 hB3 hW3
    by_cases hlt : r < x
    · gi_wp2
      refine ⟨(KeepsOthers.setCell _ _ _).from _, rfl, ?_, HF.out.set _, HB.out.setCell (p := ⟨w.heap.size, 0, none⟩) (by simp) _⟩
      have a1 := HRE.out
      have a2 := HTS.out
      have a3 := HTL.out
      have a4 := HS.out
      omega
    · have hge : x ≤ r := by omega
      have hr5 : r ≤ 4503599627370496 := by have := HRE.out; omega
      gi_wp2
      refine ⟨(KeepsOthers.setCell _ _ _).from _, kb_set (by omega) _, ?_, ?_, boxed_off HF.out (by omega) _, HB.out.setCell (p := ⟨w.heap.size + 1, 0, none⟩) (by simp) _⟩
      · have a1 := HRE.out
        have a2 := HTS.out
        have a4 := HS.out
        omega
      · have a1 := HRE.out
        have a2 := HTS.out
        have a4 := HS.out
        rw [show (4503599627370496 - (ws.take (j + 1)).sum : Nat) = r - x by omega, Int.natCast_sub hge]
        exact HR.out.set _
  case done =>
    rintro D _ W hD rfl ⟨hs, hr, hf, hB⟩ hK
    rw [List.take_length] at hs
    have cf := hf.cell
    have ff := hf.frozen
    have lf := hf.lt
    have hne : w.heap.size ≠ D := by omega
    have hK2 : (W.setCell ⟨w.heap.size, 0, none⟩ (.bool false)).heap[D]? = some (.deferred (some [])) := (Below.heap_setCell _ _ _ _ (Ne.symm hne)).trans hK
    have hr2 : Boxed ((W.setCell ⟨w.heap.size, 0, none⟩ (.bool false)).putObj D (.deferred none)) w.heap.size 4 (.bool false) := (World.putObj_heap_other hne).trans (hf.set _)
    have hd : decide (4503599627370496 < ws.sum) = false := by rw [decide_eq_false_iff_not]; omega
    have HD := Lib.hid hd
    clear hs hd
    gi_wp2
    refine ⟨by simp, .inl ⟨_, _, rfl, run_takeDeferred hK2, ?_⟩⟩
    refine ⟨.bool false, by simp [results, Try.results78, go_sem, hr2.cell], by rw [HD.out], ?_⟩
    exact (hB.setCell (p := ⟨w.heap.size, 0, none⟩) (by simp) _).trans (belowK_b (w := w) (Nat.le_refl _) _ D _ _ (by omega) hK2 rfl rfl)
  case stop =>
    rintro D c j W hD ⟨rfl, hs, hf, hB⟩ hK
    have hne : w.heap.size ≠ D := by omega
    have hr2 : Boxed (W.putObj D (.deferred none)) w.heap.size 4 (.bool true) := (World.putObj_heap_other hne).trans hf
    have hd : decide (4503599627370496 < ws.sum) = true := by rw [decide_eq_true_iff]; exact hs
    have HD := Lib.hid hd
    clear hs hd
    gi_wp2
    refine ⟨by simp, .inl ⟨_, _, rfl, run_takeDeferred hK, ?_⟩⟩
    refine ⟨.bool true, by simp [results, Try.results78, go_sem, hr2.cell], by rw [HD.out], ?_⟩
    exact hB.trans (belowK_b (w := w) (Nat.le_refl _) _ D _ _ (by omega) hK rfl rfl)

end Go.Proofs.Ytpdhkpgnajfobaa
end
section
/- Elements appended to a row of the call's own, at a step of a region that draws its order. -/
namespace Go.Proofs.Rw
open Go Go.RowKit
variable {α : Type} {L : Lay α}

theorem step_app {P : Program} (e : TypeId) (z : Value) (bytes : Nat) {t : TypeId} (hinfo : (P.info? e).map (fun i => (i.zero, i.size, i.bytes)) = some (some z, L.size, bytes)) (ht : P.underlying t = some (.slice e)) (hz : z.cells.size = L.size) (hsz : 0 < L.size) (hby : bytes ≤ 1000)
    {w : World} {ops : Array Oper} {o : Oper} {a : Act} {K : Act → World → Prop} {Q : Exit → Act → World → Prop} {E : Prop} (hgd : o.guard = none) (s x : Operand)
    (hop : o.op = Op.call { callee := Callee.builtin Builtin.append, args := #[s, x], argTypes := #[t, t] }) (base : Nat) (v u : Value) (xs ys : List α) (B : Nat) (hs : a.eval s = v) (hown : w.ownsRow base e L.size v xs.length (L.cells xs))
    (hx : a.eval x = u) (hu : Lies L w B u ys) (h1 : ∀ y ∈ ys, ∀ u ∈ L.enc y, u.oneCell' = true) (hb : xs.length + ys.length ≤ 10000000) (hbase : base ≤ w.heap.size)
    (hK : ∀ v' w', w'.ownsRow base e L.size v' (xs ++ ys).length (L.cells (xs ++ ys)) → w.grownBy w' v.ownBlock → K (a.put o.dst v') w') :
    if Region.wanted o (yielded ops a.tmps) = true then Oper.wp P o a w K Q else E := by
  have hw : Region.wanted o (yielded ops a.tmps) = true := by simp [Region.wanted, hgd]
  rw [if_pos hw]
  obtain ⟨v', w', hr, h2, h3⟩ := run_app t o.type e z bytes hinfo ht hz hsz hby w hown hu h1 hb hbase
  unfold Oper.wp execOp
  simp only [hop, resolve, invoke, builtin, Sem.run_bind, Sem.run_pure, Result.andThen_ok, List.map_toArray, List.map_cons, List.map_nil, hs, hx, hr]
  exact hK v' w' h2 h3

/-- A lump in a literal of one. -/
theorem lit_lump' (T : TypeId) (W : World) (n : Nat) (hn : W.heap.size = n) (a b : Nat) (v : Int) (hv : v = (b : Int)) : Lies spL (W.alloc (.cells #[.int .u64 a, .int .u64 v] T)) (n + 1) (.slice (some ⟨n, 0, none⟩) 1 1) [(a, b)] := by
  subst hv hn
  refine ⟨_, 1, rfl, by simp, by unfold maxLen; omega, .inr ⟨W.heap.size, 0, by omega, rfl, fun j u hu => ?_⟩⟩
  rw [Nat.zero_add, cell_of_row _ _ _ #[.int .u64 a, .int .u64 b] T (0, 0) (heap_alloc_new W _)]
  rw [cells_one] at hu
  simpa [spL] using hu

end Go.Proofs.Rw
end
section
/- replay.lots: all buckets and events, by their ticks. -/
namespace Go.Proofs.Lh
open Go.Proofs.Lm (Sp)
def lotOf (i : Nat) (b : Sp) : Sp := (b.2, 2 ^ i)
theorem lotsTo_step (ls : Lv) (j : Nat) : lotsTo ls (j + 1) = lotsTo ls j ++ (lev ls j).map (lotOf j) := lotsTo_succ ls j
theorem lotsTo_pre (ls : Lv) : ∀ {i j : Nat}, i ≤ j → (lotsTo ls i).length ≤ (lotsTo ls j).length
  | i, 0, h => by rw [Nat.le_zero.1 h]; exact Nat.le_refl _
  | i, j + 1, h => by
    rcases Nat.eq_or_lt_of_le h with rfl | h
    · exact Nat.le_refl _
    · have := lotsTo_pre ls (i := i) (j := j) (by omega)
      rw [lotsTo_step, List.length_append]
      omega
def lotsM (m : Hm) : List Sp := lotsTo m.2.2 m.2.2.length
theorem lots_part (evs : List Ev) (ms : List Hm) {j : Nat} (hj : j < ms.length) {i k : Nat} (hi : i < ms[j].2.2.length) (hk : k < (lev ms[j].2.2 i).length) :
    ((ms.take j).flatMap lotsM ++ lotsTo ms[j].2.2 i ++ ((lev ms[j].2.2 i).take k).map (lotOf i)).length + 1 ≤ (lotsP evs ms).length := by
  have e1 : ms.flatMap lotsM = (ms.take (j + 1)).flatMap lotsM ++ (ms.drop (j + 1)).flatMap lotsM := by rw [← List.flatMap_append, List.take_append_drop]
  have e2 := flat_take lotsM hj
  have e3 := lotsTo_pre ms[j].2.2 (show i + 1 ≤ ms[j].2.2.length from hi)
  rw [lotsTo_step] at e3
  unfold lotsP
  rw [show (ms.flatMap fun m => lotsTo m.2.2 m.2.2.length) = ms.flatMap lotsM from rfl, e1, e2]
  simp only [List.length_append, List.length_map, List.length_take] at *
  have e4 : (lotsM ms[j]).length = (lotsTo ms[j].2.2 ms[j].2.2.length).length := rfl
  omega
theorem lots_evs (evs : List Ev) (ms : List Hm) {i : Nat} (hi : i < evs.length) : (ms.flatMap lotsM ++ (evs.take i).map lumpE).length + 1 ≤ (lotsP evs ms).length := by
  unfold lotsP
  rw [show (ms.flatMap fun m => lotsTo m.2.2 m.2.2.length) = ms.flatMap lotsM from rfl]
  simp only [List.length_append, List.length_map, List.length_take]
  omega
end Go.Proofs.Lh
namespace Go.Proofs.Ytpdhkpgnajfobaa
open Go.RowKit Go.Shelf Go.Proofs.Rw Go.Proofs.Lh Go.Proofs.Rn

attribute [local go_sem] Oper.semAt_some

set_option maxRecDepth 100000 in
set_option maxHeartbeats 4000000 in
theorem lots_any (xs : List Hx) (evs : List Ev) (hl : xs.length ≤ 1000000) (hle : evs.length ≤ 1000000) (hlv : ∀ x ∈ xs, x.ls.length ≤ 60 ∧ ∀ i, (lev x.ls i).length ≤ 1000000) (hcap : (lotsP evs (xs.map Hx.m)).length ≤ 1000000) (w : World) (A A2 : Option Addr) (c c2 : Nat)
    (h : Hs w w.heap.size (.slice A xs.length c) xs) (h2 : Lies evL w w.heap.size (.slice A2 evs.length c2) evs) :
    Calls Try.prog 50 #[.slice A2 evs.length c2, .slice A xs.length c] w fun e w' => ∃ (v : Value) (ys : List Sp), e = .returned v ∧ ys.Perm (lotsP evs (xs.map Hx.m)) ∧ (ys.Pairwise fun x y => x.1 ≤ y.1) ∧ OwnT 140 w' w.heap.size v ys ∧ Below w.heap.size w w' := by
  obtain ⟨N, hN⟩ : ∃ N, xs.length = N := ⟨_, rfl⟩
  obtain ⟨N2, hN2⟩ : ∃ N, evs.length = N := ⟨_, rfl⟩
  obtain ⟨ms, hms⟩ : ∃ ms, xs.map Hx.m = ms := ⟨_, rfl⟩
  rw [hms] at hcap ⊢
  have hpart : ∀ (j i k : Nat) (hj : j < xs.length), i < xs[j].ls.length → k < (lev xs[j].ls i).length → ((ms.take j).flatMap lotsM ++ lotsTo xs[j].ls i ++ ((lev xs[j].ls i).take k).map (lotOf i)).length + 1 ≤ (lotsP evs ms).length := by
    intro j i k hj hi hk
    have hj' : j < ms.length := by rw [← hms]; simpa using hj
    have e : ms[j] = xs[j].m := by simp only [← hms, List.getElem_map]
    have := lots_part evs ms hj' (i := i) (k := k) (by rw [e]; exact hi) (by rw [e]; exact hk)
    rw [e] at this
    exact this
  have hevs := fun (i : Nat) (hi : i < evs.length) => lots_evs evs ms hi
  have hstep : ∀ (j : Nat) (hj : j < xs.length), (ms.take (j + 1)).flatMap lotsM = (ms.take j).flatMap lotsM ++ lotsTo xs[j].ls xs[j].ls.length := by
    intro j hj
    have hj' : j < ms.length := by rw [← hms]; simpa using hj
    have e : ms[j] = xs[j].m := by simp only [← hms, List.getElem_map]
    rw [flat_take lotsM hj', e]
    rfl
  have hlen : ms.length = N := by rw [← hms]; simpa using hN
  have HP := Lib.hid hpart
  have HEV := Lib.hid hevs
  have HST := Lib.hid hstep
  have HCAP := Lib.hid hcap
  have HLEN := Lib.hid hlen
  have HLV := Lib.hid hlv
  have HH := Lib.hid h
  have HE := Lib.hid h2
  rw [hN] at HH hl ⊢
  rw [hN2] at HE hle ⊢
  have HN := Lib.hid hN
  have HN2 := Lib.hid hN2
  clear hpart hevs hstep hcap hlen hlv h h2 hN hN2 hms
  have hal : (Below w.heap.size w w) := Below.refl _ _
  go_enter Try.func50, Try.ntmps50
  go_wp2
  go_loopw [5, 16] (fun v p wr => ∃ j : Nat, p = .int .i64 (j : Int) ∧ j ≤ N ∧ Hid (OwnT 140 wr w.heap.size v ((ms.take j).flatMap lotsM)) ∧ Hid (Below w.heap.size w wr)) (fun _ p _ => N - (intOf p).toNat)
  case atStart => exact ⟨0, rfl, Nat.zero_le _, Lib.hid (World.ownsRow_nil _ _ _ _), Lib.hid (Below.refl _ _)⟩
  case round =>
    obtain ⟨j, rfl, hj, HO, HB⟩ := hrel
    obtain ⟨P1, hP1⟩ : ∃ P, (ms.take j).flatMap lotsM = P := ⟨_, rfl⟩
    rw [hP1] at HO
    obtain ⟨A0, c0, rfl, -, -⟩ := own_form HO.out
    by_cases hlt : j < N
    · have hjl : j < xs.length := by rw [HN.out]; exact hlt
      obtain ⟨b2, off2, rfl, hb2, -, hc2⟩ := (HH.out.below HB.out).at (by omega)
      obtain ⟨e0, e1, e2, e3⟩ := hc2 j hjl
      have hpj := fun (i k : Nat) => HP.out j i k hjl
      have hsj := HST.out j hjl
      have hlj := (HLV.out xs[j] (List.getElem_mem hjl))
      generalize xs[j].k = t0 at *
      generalize xs[j].g = t1 at *
      generalize xs[j].A = t2 at *
      generalize xs[j].c = t4 at *
      obtain ⟨ls, hls⟩ : ∃ ls, xs[j].ls = ls := ⟨_, rfl⟩
      rw [hls] at e2 e3 hpj hsj hlj
      obtain ⟨M, hM⟩ : ∃ M, ls.length = M := ⟨_, rfl⟩
      rw [hP1] at hpj hsj
      obtain ⟨hM60, hml⟩ := hlj
      rw [hM] at hM60 e2 e3 hsj
      have hbb : b2 < wr.heap.size := Nat.lt_of_lt_of_le hb2 HB.out.size
      have HPJ := Lib.hid hpj
      have HSJ := Lib.hid hsj
      have HML := Lib.hid hml
      have HM := Lib.hid hM
      have HL3 := Lib.hid e3
      clear hc2 e3 hpj hsj hml hM hls hP1 hjl
      rename World => wo
      go_upto_region 5 with (fail)
      obtain ⟨w1, hw1⟩ : ∃ W, wo.alloc (.cells #[.int .i64 t0, .int .i64 t1, .slice t2 M t4] 32) = W := ⟨_, rfl⟩
      have hq1 : w1.heap[wo.heap.size]? = some (.cells #[.int .i64 t0, .int .i64 t1, .slice t2 M t4] 32) := by rw [← hw1]; exact heap_alloc_new wo _
      have HB1 := Lib.hid (show Below w.heap.size w w1 by rw [← hw1]; exact HB.out.alloc HB.out.size _)
      have HO1 := Lib.hid (show OwnT 140 w1 w.heap.size (.slice A0 P1.length c0) P1 by rw [← hw1]; exact World.ownsRow.alloc HO.out _)
      rw [hw1]
      obtain ⟨q0, q1, q2⟩ := box3 hq1
      have lq := lt_of hq1
      clear hq1 hw1 e0 e1 e2
      go_wp2
      go_loopw [5, 23] (fun v p wr => ∃ i : Nat, p = .int .i64 (i : Int) ∧ i ≤ M ∧ Hid (OwnT 140 wr w.heap.size v (P1 ++ lotsTo ls i)) ∧ Hid (Below w.heap.size w wr)) (fun _ p _ => M - (intOf p).toNat)
      case atStart => exact ⟨0, rfl, Nat.zero_le _, Lib.hid (by have := HO1.out; simpa [lotsTo] using this), HB1⟩
      case round =>
        clear q0 q1 q2 lq
        obtain ⟨i, rfl, hi, HO2, HB2⟩ := hrel
        obtain ⟨P2, hP2⟩ : ∃ P, P1 ++ lotsTo ls i = P := ⟨_, rfl⟩
        rw [hP2] at HO2
        obtain ⟨A1, c1, rfl, -, -⟩ := own_form HO2.out
        by_cases hit : i < M
        · have hil : i < ls.length := by rw [HM.out]; exact hit
          obtain ⟨b3, off3, rfl, hb3, -, hc3⟩ := (HL3.out.keep fun b hb => (HB2.out.block b hb).trans (HB.out.block b hb).symm).at (by omega)
          obtain ⟨Ai, ci, f0, -, -, f1⟩ := hc3 i hil
          have hpi := fun (k : Nat) => HPJ.out i k hil
          have hsi := lotsTo_step ls i
          have hmi := HML.out i
          rw [lev_lt hil] at hsi hmi
          simp only [lev_lt hil] at hpi
          obtain ⟨l, hle⟩ : ∃ l, ls[i] = l := ⟨_, rfl⟩
          rw [hle] at f0 f1 hpi hsi hmi
          obtain ⟨m, hm⟩ : ∃ m, l.length = m := ⟨_, rfl⟩
          rw [hm] at f0 f1 hmi
          rw [hP2] at hpi
          have hbb3 : b3 < wr.heap.size := Nat.lt_of_lt_of_le hb3 HB2.out.size
          have hi60 : i < 60 := by omega
          have HPI := Lib.hid hpi
          have HSI := Lib.hid hsi
          have HP2 := Lib.hid hP2
          have HM2 := Lib.hid hm
          have HL2 := Lib.hid f1
          clear hc3 f1 hpi hsi hm hP2 hle hil
          rename World => wp
          go_wp2
          go_loopw [5, 30] (fun v p wr => ∃ k : Nat, p = .int .i64 (k : Int) ∧ k ≤ m ∧ Hid (OwnT 140 wr w.heap.size v (P2 ++ (l.take k).map (lotOf i))) ∧ Hid (Below w.heap.size w wr)) (fun _ p _ => m - (intOf p).toNat)
          case atStart => exact ⟨0, rfl, Nat.zero_le _, Lib.hid (by have := HO2.out; simpa using this), HB2⟩
          case round =>
            obtain ⟨k, rfl, hk, HO3, HB3⟩ := hrel
            obtain ⟨P3, hP3⟩ : ∃ P, P2 ++ (l.take k).map (lotOf i) = P := ⟨_, rfl⟩
            rw [hP3] at HO3
            obtain ⟨A3, c3, rfl, -, -⟩ := own_form HO3.out
            by_cases hkt : k < m
            · have hkl : k < l.length := by rw [HM2.out]; exact hkt
              obtain ⟨b4, off4, rfl, hb4, -, hc4⟩ := sp_at (HL2.out.keep fun b hb => (HB3.out.block b hb).trans (HB2.out.block b hb).symm) (by omega)
              obtain ⟨g0, g1⟩ := hc4 k hkl
              have hbd := HPI.out k hkl
              have hnx := map_take1 (lotOf i) hkl
              obtain ⟨x, hx⟩ : ∃ x, l[k] = x := ⟨_, rfl⟩
              rw [hx] at g0 g1 hnx
              have hnx2 : P2 ++ (l.take (k + 1)).map (lotOf i) = (P2 ++ (l.take k).map (lotOf i)) ++ [(x.2, 2 ^ i)] := by rw [hnx, ← List.append_assoc]; rfl
              rw [hP3] at hbd hnx2
              have hbb4 : b4 < wr.heap.size := Nat.lt_of_lt_of_le hb4 HB3.out.size
              have hbd2 : P3.length + 1 ≤ 1000000 := Nat.le_trans hbd HCAP.out
              have HBD := Lib.hid hbd2
              have HNX := Lib.hid hnx2
              clear hc4 hbd hnx hnx2 hbd2 hP3 hx hkl
              go_upto_region 11 with (fail)
              obtain ⟨w4, hw4⟩ : ∃ W, wr.alloc (.cells #[.int .u64 (x.1 : Int), .int .u64 (x.2 : Int)] 74) = W := ⟨_, rfl⟩
              have hq4 : w4.heap[wr.heap.size]? = some (.cells #[.int .u64 (x.1 : Int), .int .u64 (x.2 : Int)] 74) := by rw [← hw4]; exact heap_alloc_new wr _
              have HB4 := Lib.hid (show Below w.heap.size w w4 by rw [← hw4]; exact HB3.out.alloc HB3.out.size _)
              have HO4 := Lib.hid (show OwnT 140 w4 w.heap.size (.slice A3 P3.length c3) P3 by rw [← hw4]; exact World.ownsRow.alloc HO3.out _)
              rw [hw4]
              obtain ⟨r0, r1, -, -⟩ := box2 hq4
              have lr := lt_of hq4
              have hu := unit_wrap hi60
              clear hq4 hw4 g0 g1
              go_region_law ((refine step_app 140 _ 16 info_lot Try.underlying107 (by rfl) (by decide) (by decide) (by rfl) _ _ (by rfl) w.heap.size _ _ P3 [(x.2, 2 ^ i)] _ (by rfl) (World.ownsRow.alloc (World.ownsRow.drew HO4.out) _) (by rfl) (lit_lump' _ _ _ (by rfl) x.2 (2 ^ i) _ (by first | exact hu | simp)) (sp_one _) (by have := HBD.out; simp; omega) (by have := HB4.out.size; simp; omega) ?_; intro v' w3 ho3 hg3))
              all_goals
                replace ho3 : OwnT 140 w3 w.heap.size v' (P3 ++ [(x.2, 2 ^ i)]) := ho3
                have HO5 := Lib.hid ho3
                have HG5 := Lib.hid hg3
                clear ho3 hg3
                go_wp2
                refine ⟨⟨k + 1, by go_num, hkt, Lib.hid ?_, Lib.hid ?_⟩, by simp [intOf]; omega⟩
                · rw [HNX.out]
                  exact HO5.out
                · exact (HB4.out.drew.alloc (by have := HB4.out.size; simp; omega) _).grown HG5.out (by have := HB4.out.size; simp; omega) (fun q hq => (HO4.out.lt q hq).1)
            · have e : k = m := by omega
              subst e
              rw [List.take_of_length_le (by rw [HM2.out]; exact Nat.le_refl _)] at hP3
              have hP4 : P1 ++ lotsTo ls (i + 1) = P3 := by rw [HSI.out, ← List.append_assoc, HP2.out, hP3]
              have HP4 := Lib.hid hP4
              clear hP3 hP4
              go_wp2
              refine ⟨⟨i + 1, by go_num, hit, Lib.hid ?_, HB3⟩, by simp [intOf]; omega⟩
              rw [HP4.out]
              exact HO3.out
        · have e : i = M := by omega
          subst e
          have hP3 : (ms.take (j + 1)).flatMap lotsM = P2 := by rw [HSJ.out, hP2]
          have HP3 := Lib.hid hP3
          clear hP2 hP3
          go_wp2
          refine ⟨⟨j + 1, by go_num, hlt, Lib.hid ?_, HB2⟩, by simp [intOf]; omega⟩
          rw [HP3.out]
          exact HO2.out
    · have e : j = N := by omega
      subst e
      rw [← HLEN.out, List.take_length] at hP1
      have hev2 := fun (i : Nat) (hi : i < evs.length) => HEV.out i hi
      rw [hP1] at hev2
      have HEV2 := Lib.hid hev2
      have HP1 := Lib.hid hP1
      clear hP1 hev2
      rename World => wo
      go_wp2
      go_loopw [5, 47] (fun v p wr => ∃ i : Nat, p = .int .i64 (i : Int) ∧ i ≤ N2 ∧ Hid (OwnT 140 wr w.heap.size v (P1 ++ (evs.take i).map lumpE)) ∧ Hid (Below w.heap.size w wr)) (fun _ p _ => N2 - (intOf p).toNat)
      case atStart => exact ⟨0, rfl, Nat.zero_le _, Lib.hid (by have := HO.out; simpa using this), HB⟩
      case round =>
        obtain ⟨i, rfl, hi, HO2, HB2⟩ := hrel
        obtain ⟨P2, hP2⟩ : ∃ P, P1 ++ (evs.take i).map lumpE = P := ⟨_, rfl⟩
        rw [hP2] at HO2
        obtain ⟨A1, c1, rfl, -, -⟩ := own_form HO2.out
        by_cases hit : i < N2
        · have hil : i < evs.length := by rw [HN2.out]; exact hit
          obtain ⟨b4, off4, rfl, hb4, -, hc4⟩ := ev_at (HE.out.below HB2.out) (by omega)
          obtain ⟨g0, g1, g2⟩ := hc4 i hil
          have hbd := HEV2.out i hil
          have hnx := map_take1 lumpE hil
          obtain ⟨x, hx⟩ : ∃ x, evs[i] = x := ⟨_, rfl⟩
          rw [hx] at g0 g1 g2 hnx
          have hnx2 : P1 ++ (evs.take (i + 1)).map lumpE = (P1 ++ (evs.take i).map lumpE) ++ [(x.1, x.2.2)] := by rw [hnx, ← List.append_assoc]; rfl
          rw [hP2] at hbd hnx2
          have hbb4 : b4 < wr.heap.size := Nat.lt_of_lt_of_le hb4 HB2.out.size
          have hbd2 : P2.length + 1 ≤ 1000000 := Nat.le_trans hbd HCAP.out
          have HBD := Lib.hid hbd2
          have HNX := Lib.hid hnx2
          clear hc4 hbd hnx hnx2 hbd2 hP2 hx hil
          go_upto_region 18 with (fail)
          obtain ⟨w4, hw4⟩ : ∃ W, wr.alloc (.cells #[.int .u64 (x.1 : Int), .int .u64 (x.2.1 : Int), .int .u64 (x.2.2 : Int)] 68) = W := ⟨_, rfl⟩
          have hq4 : w4.heap[wr.heap.size]? = some (.cells #[.int .u64 (x.1 : Int), .int .u64 (x.2.1 : Int), .int .u64 (x.2.2 : Int)] 68) := by rw [← hw4]; exact heap_alloc_new wr _
          have HB4 := Lib.hid (show Below w.heap.size w w4 by rw [← hw4]; exact HB2.out.alloc HB2.out.size _)
          have HO4 := Lib.hid (show OwnT 140 w4 w.heap.size (.slice A1 P2.length c1) P2 by rw [← hw4]; exact World.ownsRow.alloc HO2.out _)
          rw [hw4]
          obtain ⟨r0, r1, r2⟩ := box3 hq4
          have lr := lt_of hq4
          clear hq4 hw4 g0 g1 g2
          go_wp2_with (at_builtin; refine wpList_app 140 _ 16 info_lot Try.underlying107 rfl (by decide) (by decide) _ rfl _ _ rfl w.heap.size _ _ P2 [(x.1, x.2.2)] _ rfl (World.ownsRow.alloc HO4.out _) rfl (lit_lump _ _ _ rfl x.1 x.2.2) (sp_one _) (by have := HBD.out; simp; omega) (by have := HB4.out.size; simp; omega) ?_; intro v' w3 ho3 hg3; have HO5 := Lib.hid ho3; have HG5 := Lib.hid hg3; clear ho3 hg3)
          refine ⟨⟨i + 1, by go_num, hit, Lib.hid ?_, Lib.hid ?_⟩, by simp [intOf]; omega⟩
          · rw [HNX.out]
            exact HO5.out
          · exact (HB4.out.alloc HB4.out.size _).grown HG5.out (by have := HB4.out.size; simp; omega) (fun q hq => (HO4.out.lt q hq).1)
        · have e : i = N2 := by omega
          subst e
          rw [List.take_of_length_le (by rw [HN2.out]; exact Nat.le_refl _), ← HP1.out] at hP2
          have hP3 : lotsP evs ms = P2 := hP2
          have hlp : P2.length ≤ 10000000 := by have := HCAP.out; rw [hP3] at this; omega
          have hso := sort_any P2 hlp w.heap.size wr A1 c1 HO2.out
          have HSO := Lib.hid hso
          have HP3 := Lib.hid hP3
          clear hP2 hP3 hlp hso
          go_wp2_with (go_at_call 82; refine HSO.out.mono ?_; rintro e w5 ⟨rfl, ys, y1, y2, y3, y4, y5⟩; have Y1 := Lib.hid y1; have Y2 := Lib.hid y2; have Y4 := Lib.hid y4; have Y5 := Lib.hid y5; clear y1 y2 y3 y4 y5)
          go_ret
          refine ⟨_, ys, rfl, by rw [HP3.out]; exact Y1.out, Y2.out, Y4.out, HB2.out.grown Y5.out HB2.out.size (fun q hq => (HO2.out.lt q hq).1)⟩

end Go.Proofs.Ytpdhkpgnajfobaa
end
section
/- The document's: lumps, least. -/
namespace Go.Proofs.Lh
open Go.Proofs.Lm (Sp)
theorem lumps_part {L : Lv} {d : Nat} (hd : d < L.length) : lumpsOf d (L.drop d) = lumpsOf (d + 1) (L.drop (d + 1)) ++ (lev L d).map (lotOf d) := lumps_step hd
def lumpM (m : Hm) : List Sp := lumpsOf 0 m.2.2
theorem lumps_drop (L : Lv) : ∀ d, d ≤ L.length → (lumpsOf d (L.drop d)).length ≤ (lumpsOf 0 L).length
  | 0, _ => by simp
  | d + 1, h => by
    have h1 := lumps_drop L d (by omega)
    rw [lumps_part (by omega), List.length_append] at h1
    omega
theorem lumps_bound (ms : List Hm) {j : Nat} (hj : j < ms.length) {d k : Nat} (hd : d < ms[j].2.2.length) (hk : k < (lev ms[j].2.2 d).length) :
    ((ms.take j).flatMap lumpM ++ lumpsOf (d + 1) (ms[j].2.2.drop (d + 1)) ++ ((lev ms[j].2.2 d).take k).map (lotOf d)).length + 1 ≤ (ms.flatMap lumpM).length := by
  have e1 : ms.flatMap lumpM = (ms.take (j + 1)).flatMap lumpM ++ (ms.drop (j + 1)).flatMap lumpM := by rw [← List.flatMap_append, List.take_append_drop]
  have e2 := flat_take lumpM hj
  have e3 := lumps_drop ms[j].2.2 d (by omega)
  rw [lumps_part hd] at e3
  rw [e1, e2]
  have e4 : (lumpM ms[j]).length = (lumpsOf 0 ms[j].2.2).length := rfl
  simp only [List.length_append, List.length_map, List.length_take] at *
  omega
end Go.Proofs.Lh
namespace Go.Proofs.Ytpdhkpgnajfobaa
open Go.RowKit Go.Shelf Go.Proofs.Rw Go.Proofs.Lh Go.Proofs.Rn

attribute [local go_sem] Oper.semAt_some

set_option maxRecDepth 100000 in
set_option maxHeartbeats 4000000 in
theorem lumps_any (xs : List Hx) (hl : xs.length ≤ 1000000) (hlv : ∀ x ∈ xs, x.ls.length ≤ 60 ∧ ∀ i, (lev x.ls i).length ≤ 1000000) (hcap : ((xs.map Hx.m).flatMap lumpM).length ≤ 1000000) (w : World) (A : Option Addr) (c : Nat) (h : Hs w w.heap.size (.slice A xs.length c) xs) :
    Calls Try.prog 53 #[.slice A xs.length c] w fun e w' => ∃ v : Value, e = .returned v ∧ OwnT 114 w' w.heap.size v ((xs.map Hx.m).flatMap lumpM) ∧ Below w.heap.size w w' := by
  obtain ⟨N, hN⟩ : ∃ N, xs.length = N := ⟨_, rfl⟩
  obtain ⟨ms, hms⟩ : ∃ ms, xs.map Hx.m = ms := ⟨_, rfl⟩
  rw [hms] at hcap ⊢
  have hpart : ∀ (j d k : Nat) (hj : j < xs.length), d < xs[j].ls.length → k < (lev xs[j].ls d).length → ((ms.take j).flatMap lumpM ++ lumpsOf (d + 1) (xs[j].ls.drop (d + 1)) ++ ((lev xs[j].ls d).take k).map (lotOf d)).length + 1 ≤ (ms.flatMap lumpM).length := by
    intro j d k hj hi hk
    have hj' : j < ms.length := by rw [← hms]; simpa using hj
    have e : ms[j] = xs[j].m := by simp only [← hms, List.getElem_map]
    have := lumps_bound ms hj' (d := d) (k := k) (by rw [e]; exact hi) (by rw [e]; exact hk)
    rw [e] at this
    exact this
  have hstep : ∀ (j : Nat) (hj : j < xs.length), (ms.take (j + 1)).flatMap lumpM = (ms.take j).flatMap lumpM ++ lumpsOf 0 xs[j].ls := by
    intro j hj
    have hj' : j < ms.length := by rw [← hms]; simpa using hj
    have e : ms[j] = xs[j].m := by simp only [← hms, List.getElem_map]
    rw [flat_take lumpM hj', e]
    rfl
  have hlen : ms.length = N := by rw [← hms]; simpa using hN
  have HP := Lib.hid hpart
  have HST := Lib.hid hstep
  have HCAP := Lib.hid hcap
  have HLEN := Lib.hid hlen
  have HLV := Lib.hid hlv
  have HH := Lib.hid h
  rw [hN] at HH hl ⊢
  have HN := Lib.hid hN
  clear hpart hstep hcap hlen hlv h hN hms
  go_enter Try.func53, Try.ntmps53
  go_wp2
  go_loopw [3, 4] (fun v p wr => ∃ j : Nat, p = .int .i64 (j : Int) ∧ j ≤ N ∧ Hid (OwnT 114 wr w.heap.size v ((ms.take j).flatMap lumpM)) ∧ Hid (Below w.heap.size w wr)) (fun _ p _ => N - (intOf p).toNat)
  case atStart => exact ⟨0, rfl, Nat.zero_le _, Lib.hid (World.ownsRow_nil _ _ _ _), Lib.hid (Below.refl _ _)⟩
  case round =>
    obtain ⟨j, rfl, hj, HO, HB⟩ := hrel
    obtain ⟨P1, hP1⟩ : ∃ P, (ms.take j).flatMap lumpM = P := ⟨_, rfl⟩
    rw [hP1] at HO
    obtain ⟨A0, c0, rfl, -, -⟩ := own_form HO.out
    by_cases hlt : j < N
    · have hjl : j < xs.length := by rw [HN.out]; exact hlt
      obtain ⟨b2, off2, rfl, hb2, -, hc2⟩ := (HH.out.below HB.out).at (by omega)
      obtain ⟨e0, e1, e2, e3⟩ := hc2 j hjl
      have e2w := (World.cell?_of_block (a := ⟨b2, off2 + j * 3 + 2, none⟩) (HB.out.block b2 hb2)).symm.trans e2
      have hpj := fun (d k : Nat) => HP.out j d k hjl
      have hsj := HST.out j hjl
      have hlj := (HLV.out xs[j] (List.getElem_mem hjl))
      generalize xs[j].A = t2 at *
      generalize xs[j].c = t4 at *
      obtain ⟨ls, hls⟩ : ∃ ls, xs[j].ls = ls := ⟨_, rfl⟩
      rw [hls] at e2 e3 hpj hsj hlj e2w
      obtain ⟨M, hM⟩ : ∃ M, ls.length = M := ⟨_, rfl⟩
      rw [hP1] at hpj hsj
      obtain ⟨hM60, hml⟩ := hlj
      rw [hM] at hM60 e2 e3 e2w
      have hbb : b2 < wr.heap.size := Nat.lt_of_lt_of_le hb2 HB.out.size
      have HPJ := Lib.hid hpj
      have HSJ := Lib.hid hsj
      have HML := Lib.hid hml
      have HM := Lib.hid hM
      have HL3 := Lib.hid e3
      have HE2 := Lib.hid e2w
      clear hc2 e3 hpj hsj hml hM hls hP1 hjl e0 e1 e2w
      rename World => wo
      go_wp2
      go_loopw [3, 5] (fun v p wr => ∃ (d : Nat) (p' : Int), p = .int .i64 p' ∧ p' = (d : Int) - 1 ∧ d ≤ M ∧ Hid (OwnT 114 wr w.heap.size v (P1 ++ lumpsOf d (ls.drop d))) ∧ Hid (Below w.heap.size w wr)) (fun _ p _ => (intOf p + 1).toNat)
      case atStart => exact ⟨M, (M : Int) - 1, rfl, rfl, Nat.le_refl _, Lib.hid (by have := HO.out; rw [← HM.out, List.drop_length]; simpa [lumpsOf] using this), HB⟩
      case round =>
        clear e2
        obtain ⟨d, p', rfl, hp', hi, HO2, HB2⟩ := hrel
        obtain ⟨P2, hP2⟩ : ∃ P, P1 ++ lumpsOf d (ls.drop d) = P := ⟨_, rfl⟩
        rw [hP2] at HO2
        obtain ⟨A1, c1, rfl, -, -⟩ := own_form HO2.out
        have e2 := (HB2.out.cell (p := ⟨b2, off2 + j * 3 + 2, none⟩) hb2).trans HE2.out
        have hbb2 : b2 < wr.heap.size := Nat.lt_of_lt_of_le hb2 HB2.out.size
        rcases d with _ | i
        · have e : p' = -1 := by omega
          subst e
          have hP3 : (ms.take (j + 1)).flatMap lumpM = P2 := by rw [HSJ.out, ← hP2]; simp
          have HP3 := Lib.hid hP3
          clear hP2 hP3 hp'
          go_wp2
          refine ⟨⟨j + 1, by go_num, hlt, Lib.hid ?_, HB2⟩, by simp [intOf]; omega⟩
          rw [HP3.out]
          exact HO2.out
        · have e : p' = (i : Int) := by omega
          subst e
          clear hp'
          have hit : i < M := by omega
          have hil : i < ls.length := by rw [HM.out]; exact hit
          obtain ⟨b3, off3, rfl, hb3, -, hc3⟩ := (HL3.out.keep fun b hb => (HB2.out.block b hb).trans (HB.out.block b hb).symm).at (by omega)
          obtain ⟨Ai, ci, f0, -, -, f1⟩ := hc3 i hil
          have hpi := fun (k : Nat) => HPJ.out i k hil
          have hsi := lumps_part hil
          have hmi := HML.out i
          rw [lev_lt hil] at hsi hmi
          simp only [lev_lt hil] at hpi
          obtain ⟨l, hle⟩ : ∃ l, ls[i] = l := ⟨_, rfl⟩
          rw [hle] at f0 f1 hpi hsi hmi
          obtain ⟨m, hm⟩ : ∃ m, l.length = m := ⟨_, rfl⟩
          rw [hm] at f0 f1 hmi
          rw [hP2] at hpi
          have f0w := (World.cell?_of_block (a := ⟨b3, off3 + i, none⟩) (HB2.out.block b3 hb3)).symm.trans f0
          have hi60 : i < 60 := by omega
          have HPI := Lib.hid hpi
          have HSI := Lib.hid hsi
          have HP2 := Lib.hid hP2
          have HM2 := Lib.hid hm
          have HL2 := Lib.hid f1
          have HF0 := Lib.hid f0w
          clear hc3 f1 hpi hsi hm hP2 hle hil f0 f0w e2 hbb hbb2
          rename World => wp
          go_wp2
          go_loopw [3, 6] (fun v p wr => ∃ k : Nat, p = .int .i64 (k : Int) ∧ k ≤ m ∧ Hid (OwnT 114 wr w.heap.size v (P2 ++ (l.take k).map (lotOf i))) ∧ Hid (Below w.heap.size w wr)) (fun _ p _ => m - (intOf p).toNat)
          case atStart => exact ⟨0, rfl, Nat.zero_le _, Lib.hid (by have := HO2.out; simpa using this), HB2⟩
          case round =>
            obtain ⟨k, rfl, hk, HO3, HB3⟩ := hrel
            obtain ⟨P3, hP3⟩ : ∃ P, P2 ++ (l.take k).map (lotOf i) = P := ⟨_, rfl⟩
            rw [hP3] at HO3
            obtain ⟨A3, c3, rfl, -, -⟩ := own_form HO3.out
            have e2 := (HB3.out.cell (p := ⟨b2, off2 + j * 3 + 2, none⟩) hb2).trans HE2.out
            have f0 := (HB3.out.cell (p := ⟨b3, off3 + i, none⟩) hb3).trans HF0.out
            have l2 : b2 < wr.heap.size := Nat.lt_of_lt_of_le hb2 HB3.out.size
            have l3 : b3 < wr.heap.size := Nat.lt_of_lt_of_le hb3 HB3.out.size
            by_cases hkt : k < m
            · have hkl : k < l.length := by rw [HM2.out]; exact hkt
              obtain ⟨b4, off4, rfl, hb4, -, hc4⟩ := sp_at (HL2.out.keep fun b hb => (HB3.out.block b hb).trans (HB2.out.block b hb).symm) (by omega)
              obtain ⟨g0, g1⟩ := hc4 k hkl
              have hbd := HPI.out k hkl
              have hnx := map_take1 (lotOf i) hkl
              obtain ⟨x, hx⟩ : ∃ x, l[k] = x := ⟨_, rfl⟩
              rw [hx] at g0 g1 hnx
              have hnx2 : P2 ++ (l.take (k + 1)).map (lotOf i) = (P2 ++ (l.take k).map (lotOf i)) ++ [(x.2, 2 ^ i)] := by rw [hnx, ← List.append_assoc]; rfl
              rw [hP3] at hnx2
              rw [hP3] at hbd
              have hbd2 : P3.length + 1 ≤ 1000000 := Nat.le_trans hbd HCAP.out
              have hbb4 : b4 < wr.heap.size := Nat.lt_of_lt_of_le hb4 HB3.out.size
              have HBD := Lib.hid hbd2
              have HNX := Lib.hid hnx2
              have hu := unit_wrap hi60
              clear hc4 hbd hnx hnx2 hbd2 hP3 hx hkl
              go_upto_region 11 with (fail)
              go_region_law ((refine step_app 114 _ 16 info_lump Try.underlying111 (by rfl) (by decide) (by decide) (by rfl) _ _ (by rfl) w.heap.size _ _ P3 [(x.2, 2 ^ i)] _ (by rfl) (World.ownsRow.alloc (World.ownsRow.drew HO3.out) _) (by rfl) (lit_lump' _ _ _ (by rfl) x.2 (2 ^ i) _ (by first | exact hu | simp)) (sp_one _) (by have := HBD.out; simp; omega) (by have := HB3.out.size; simp; omega) ?_; intro v' w3 ho3 hg3))
              all_goals
                replace ho3 : OwnT 114 w3 w.heap.size v' (P3 ++ [(x.2, 2 ^ i)]) := ho3
                have HO5 := Lib.hid ho3
                have HG5 := Lib.hid hg3
                clear ho3 hg3
                go_wp2
                refine ⟨⟨k + 1, by go_num, hkt, Lib.hid ?_, Lib.hid ?_⟩, by simp [intOf]; omega⟩
                · rw [HNX.out]
                  exact HO5.out
                · exact (HB3.out.drew.alloc (by have := HB3.out.size; simp; omega) _).grown HG5.out (by have := HB3.out.size; simp; omega) (fun q hq => (HO3.out.lt q hq).1)
            · have e : k = m := by omega
              subst e
              rw [List.take_of_length_le (by rw [HM2.out]; exact Nat.le_refl _)] at hP3
              have hP4 : P1 ++ lumpsOf i (ls.drop i) = P3 := by rw [HSI.out, ← List.append_assoc, HP2.out, hP3]
              have HP4 := Lib.hid hP4
              clear hP3 hP4
              go_wp2
              refine ⟨⟨i, (i : Int) - 1, rfl, rfl, by omega, Lib.hid ?_, HB3⟩, by simp [intOf] <;> omega⟩
              rw [HP4.out]
              exact HO3.out
    · have e : j = N := by omega
      subst e
      rw [← HLEN.out, List.take_length] at hP1
      have HP1 := Lib.hid hP1
      clear hP1
      go_wp2
      go_ret
      exact ⟨_, rfl, by rw [HP1.out]; exact HO.out, HB.out⟩

/-! ### least -/

def boolL : Lay Bool := ⟨1, fun b => [.bool b], fun _ => rfl⟩
theorem bool_at {w : World} {B : Nat} {A : Option Addr} {len cap : Nat} {ds : List Bool} (h : Lies boolL w B (.slice A len cap) ds) (h0 : 0 < ds.length) : ∃ b off, A = some ⟨b, off, none⟩ ∧ b < B ∧ len = ds.length ∧ ∀ i (hi : i < ds.length), w.cell? ⟨b, off + i, none⟩ = some (.bool ds[i]) := by
  obtain ⟨b, off, hA, hb, hl, hc⟩ := h.addr h0
  refine ⟨b, off, hA, hb, hl, fun i hi => ?_⟩
  have := hc i hi 0 (.bool ds[i]) rfl
  rw [show i * boolL.size + 0 = i by show i * 1 + 0 = i; omega] at this
  exact this
/-- The least one of the first j of those that are left. -/
def LeastAt (all : List Sp) (done : List Bool) (j : Nat) (a : Int) : Prop :=
  (a = -1 ∧ ∀ i, i < j → done[i]? = some true) ∨ ∃ m : Nat, a = (m : Int) ∧ m < j ∧ done[m]? = some false ∧ ∀ i, i < j → done[i]? = some false → (all.getD m (0, 0)).1 ≤ (all.getD i (0, 0)).1

set_option maxRecDepth 100000 in
set_option maxHeartbeats 4000000 in
theorem left_any (all : List Sp) (done : List Bool) (hl : all.length ≤ 1000000) (hd : done.length = all.length) (w : World) (B : Nat) (hB : B ≤ w.heap.size) (A A2 : Option Addr) (c c2 : Nat) (h : Lies spL w B (.slice A all.length c) all) (h2 : Lies boolL w B (.slice A2 done.length c2) done) :
    Calls Try.prog 54 #[.slice A all.length c, .slice A2 done.length c2] w fun e w' => ∃ a : Int, e = .returned (.int .i64 a) ∧ LeastAt all done all.length a ∧ Below w.heap.size w w' := by
  obtain ⟨N, hN⟩ : ∃ N, all.length = N := ⟨_, rfl⟩
  rw [hN] at hd
  have HL := Lib.hid h
  have HD := Lib.hid h2
  rw [hN] at HL hl ⊢
  rw [hd] at HD ⊢
  have HN := Lib.hid hN
  have HN2 := Lib.hid hd
  clear h h2 hN hd
  go_enter Try.func54, Try.ntmps54
  go_wp2
  go_loopw [5, 6] (fun v p wr => ∃ (j : Nat) (a : Int), p = .int .i64 (j : Int) ∧ v = .int .i64 a ∧ j ≤ N ∧ Hid (LeastAt all done j a) ∧ Hid (Below w.heap.size w wr)) (fun _ p _ => N - (intOf p).toNat)
  case atStart => exact ⟨0, -1, rfl, rfl, Nat.zero_le _, Lib.hid (.inl ⟨rfl, fun i hi => absurd hi (by omega)⟩), Lib.hid (Below.refl _ _)⟩
  case round =>
    obtain ⟨j, a, rfl, rfl, hj, HA, HBW⟩ := hrel
    by_cases hlt : j < N
    · have hjl : j < all.length := by rw [HN.out]; exact hlt
      have hjd : j < done.length := by rw [HN2.out]; exact hlt
      obtain ⟨b1, off1, rfl, hb1, -, hc1⟩ := bool_at (HD.out.keep fun b hb => HBW.out.block b (by omega)) (by omega)
      obtain ⟨b2, off2, rfl, hb2, -, hc2⟩ := sp_at (HL.out.keep fun b hb => HBW.out.block b (by omega)) (by omega)
      have d0 := hc1 j hjd
      obtain ⟨e0, -⟩ := hc2 j hjl
      have l1 : b1 < wr.heap.size := Nat.lt_of_lt_of_le (by omega) HBW.out.size
      have l2 : b2 < wr.heap.size := Nat.lt_of_lt_of_le (by omega) HBW.out.size
      have gj : (all.getD j (0, 0)).1 = all[j].1 := by simp [List.getD, List.getElem?_eq_getElem hjl]
      obtain ⟨t, ht⟩ : ∃ t, all[j].1 = t := ⟨_, rfl⟩
      rw [ht] at e0 gj
      have qj : done[j]? = some done[j] := List.getElem?_eq_getElem hjd
      obtain ⟨q, hq⟩ : ∃ q, done[j] = q := ⟨_, rfl⟩
      rw [hq] at d0 qj
      clear ht hq
      cases q with
      | true =>
        have hnext : LeastAt all done (j + 1) a := by
          rcases HA.out with ⟨ea, hall⟩ | ⟨m, ea, hm, hdm, hmin⟩
          · refine .inl ⟨ea, fun i hi => ?_⟩
            rcases Nat.lt_or_ge i j with h | h
            · exact hall i h
            · have e : i = j := by omega
              rw [e]
              exact qj
          · refine .inr ⟨m, ea, by omega, hdm, fun i hi hdi => ?_⟩
            rcases Nat.lt_or_ge i j with h | h
            · exact hmin i h hdi
            · have e : i = j := by omega
              rw [e, qj] at hdi
              cases hdi
        have HNEXT := Lib.hid hnext
        have HBD := Lib.hid fun n => below_drewN HBW.out n
        clear hnext qj gj hc1 hc2
        go_upto_region 5 with (fail)
        go_quiet (fail)
        go_wp2
        exact ⟨⟨j + 1, a, by go_num, rfl, hlt, HNEXT, Lib.hid (HBD.out _)⟩, by simp [intOf]; omega⟩
      | false =>
        rcases HA.out with ⟨rfl, hall⟩ | ⟨m, rfl, hm, hdm, hmin⟩
        · have hnext : LeastAt all done (j + 1) (j : Int) := by
            refine .inr ⟨j, rfl, by omega, qj, fun i hi hdi => ?_⟩
            rcases Nat.lt_or_ge i j with h | h
            · rw [hall i h] at hdi
              cases hdi
            · have e : i = j := by omega
              rw [e]
              exact Nat.le_refl _
          have HNEXT := Lib.hid hnext
          have HBD := Lib.hid fun n => below_drewN HBW.out n
          clear hnext qj gj hc1 hc2 hall HA
          go_upto_region 5 with (fail)
          go_quiet (fail)
          go_wp2
          exact ⟨⟨j + 1, j, by go_num, rfl, hlt, HNEXT, Lib.hid (HBD.out _)⟩, by simp [intOf]; omega⟩
        · have hml : m < all.length := by omega
          have hm0 : decide ((m : Int) < 0) = false := by simp
          have hmN : m < N := by omega
          obtain ⟨f0, -⟩ := hc2 m hml
          have gm : (all.getD m (0, 0)).1 = all[m].1 := by simp [List.getD, List.getElem?_eq_getElem hml]
          obtain ⟨u, hu⟩ : ∃ u, all[m].1 = u := ⟨_, rfl⟩
          rw [hu] at f0 gm
          by_cases htu : t < u
          · have hnext : LeastAt all done (j + 1) (j : Int) := by
              refine .inr ⟨j, rfl, by omega, qj, fun i hi hdi => ?_⟩
              rcases Nat.lt_or_ge i j with h | h
              · have := hmin i h hdi
                omega
              · have e : i = j := by omega
                rw [e]
                exact Nat.le_refl _
            have HNEXT := Lib.hid hnext
            have HBD := Lib.hid fun n => below_drewN HBW.out n
            have hdt : decide (t < u) = true := by simpa using htu
            clear hnext qj gj hc1 hc2 hmin HA hu gm hdm
            go_upto_region 5 with (fail)
            go_quiet (fail)
            go_wp2
            exact ⟨⟨j + 1, j, by go_num, rfl, hlt, HNEXT, Lib.hid (HBD.out _)⟩, by simp [intOf]; omega⟩
          · have hnext : LeastAt all done (j + 1) (m : Int) := by
              refine .inr ⟨m, rfl, by omega, hdm, fun i hi hdi => ?_⟩
              rcases Nat.lt_or_ge i j with h | h
              · exact hmin i h hdi
              · have e : i = j := by omega
                rw [e]
                omega
            have HNEXT := Lib.hid hnext
            have HBD := Lib.hid fun n => below_drewN HBW.out n
            have hdt : decide (t < u) = false := by simpa using htu
            clear hnext qj gj hc1 hc2 hmin HA hu gm hdm htu
            go_upto_region 5 with (fail)
            go_quiet (fail)
            go_wp2
            exact ⟨⟨j + 1, m, by go_num, rfl, hlt, HNEXT, Lib.hid (HBD.out _)⟩, by simp [intOf]; omega⟩
    · have e : j = N := by omega
      subst e
      go_wp2
      go_ret
      exact ⟨_, rfl, HA.out, HBW.out⟩

end Go.Proofs.Ytpdhkpgnajfobaa
end
