/- The contract of skylightlaw09.copied: a histogram, whose buckets are its own. -/
import Derived.Test.YtoplbjanemjebaaFacts4
import Derived.Test.YtoplbjanemjebaaCkFresh
import Derived.Test.YtoplbjanemjebaaXDrop
namespace Go.Proofs.Ytoplbjanemjebaa
open Go.RowKit Go.Shelf Go.Proofs.Rw Go.Proofs.Lh Go.Proofs.Rf

theorem run_append_op {P : Program} {a : Act} {o : Oper} {W w' : World} {v vs vx : Value} {s x : Operand} {t : TypeId} (hop : o.op = Op.call { callee := Callee.builtin Builtin.append, args := #[s, x], argTypes := #[t, t] }) (hs : a.eval s = vs) (hx : a.eval x = vx)
    (hr : (Builtin.append_ #[t, t] o.type #[vs, vx]).run P W = .ok v w') : (execOp a.eval o).run P W = .ok (.value v) w' := by
  unfold execOp
  simp only [hop, resolve, invoke, builtin, Sem.run_bind, Sem.run_pure, Result.andThen_ok, List.map_toArray, List.map_cons, List.map_nil, hs, hx, hr]

set_option maxRecDepth 100000 in
set_option maxHeartbeats 4000000 in
theorem copied_any (k g : Int) (ls : Lv) (hlen : ls.length ≤ 1000) (hne : ∀ l ∈ ls, l ≠ []) (hlev : ∀ l ∈ ls, l.length ≤ 1000000) (w : World) (A : Option Addr) (c : Nat) (h : Levs w w.heap.size (.slice A ls.length c) ls) :
    Calls Try.prog 19 #[hv k g (.slice A ls.length c)] w fun e w' => ∃ A' c', e = .returned (hv k g (.slice A' ls.length c')) ∧ Fresh w' w.heap.size (.slice A' ls.length c') ls ∧ Below w.heap.size w w' := by
  obtain ⟨N, hN⟩ : ∃ N, ls.length = N := ⟨_, rfl⟩
  rw [hN] at h ⊢
  obtain ⟨W0, hW0, hsz, p0, p1, p2, hB0⟩ := heap_three w (.cells #[.int .i64 k, .int .i64 g, .slice A N c] 29) (.cells #[.int .i64 0, .int .i64 0, .slice none 0 0] 29) (.cells #[.int .i64 k, .int .i64 g, .slice none 0 0] 29)
  have HN := Lib.hid hN
  have HW0 := Lib.hid hW0
  have HSZ := Lib.hid hsz
  have P0 := Lib.hid p0
  have P1 := Lib.hid p1
  have P2 := Lib.hid p2
  have HB0 := Lib.hid hB0
  have HL := Lib.hid h
  have HNE := Lib.hid hne
  have HLV := Lib.hid hlev
  have hN1 : N ≤ 1000 := by omega
  clear hN hW0 hsz p0 p1 p2 hB0 h hne hlev hlen
  go_enter Try.func19, Try.ntmps19
  go_upto_region 2 with (fail)
  rw [← HW0.out]
  clear HW0
  obtain ⟨bH, hbH⟩ : ∃ b, w.heap.size = b := ⟨_, rfl⟩
  obtain ⟨bR, hbR⟩ : ∃ b, w.heap.size + 1 = b := ⟨_, rfl⟩
  obtain ⟨bO, hbO⟩ : ∃ b, w.heap.size + 2 = b := ⟨_, rfl⟩
  have hz3 : W0.heap.size = bO + 1 := by have := HSZ.out; omega
  rw [hbH, show bH + 1 = bR by omega, show bR + 1 = bO by omega]
  have b1 : bR = bH + 1 := by omega
  have b2 : bO = bH + 2 := by omega
  rw [hbH] at P0
  rw [hbR] at P1
  rw [show w.heap.size + 1 + 1 = bO by omega] at P2
  have B1 := Lib.hid b1
  have B2 := Lib.hid b2
  have HZ3 := Lib.hid hz3
  have HBH := Lib.hid hbH
  clear b1 b2 hz3 hbH hbR hbO HSZ
  go_wp2
  go_loopw [4] (fun s4 wr => ∃ (j : Nat) (v : Value), s4 = .int .i64 (j : Int) ∧ j ≤ N ∧ wr.heap[bO]? = some (.cells #[.int .i64 k, .int .i64 g, v] 29) ∧ Fresh wr (bO + 1) v (ls.take j) ∧ Below bO W0 wr) (fun s4 _ => N - (intOf s4).toNat)
  case atStart =>
    refine ⟨0, .slice none 0 0, rfl, Nat.zero_le _, P2.out, Fresh.nil _ _, Below.refl _ _⟩
  case round =>
    obtain ⟨j, v, rfl, hj, hox, hfr, hbel⟩ := hrel
    have e1 := B1.out
    have e2 := B2.out
    have hHx := (hbel.block bH (by omega)).trans P0.out
    obtain ⟨x0, x1, x2⟩ := box3 hHx
    have lH := lt_of hHx
    by_cases hlt : j < N
    · have hLr : Levs wr wr.heap.size (.slice A N c) ls := by
        have hb := HBH.out
        have h1 := HL.out.below HB0.out
        have h2 : Below w.heap.size W0 wr := hbel.mono (by omega)
        exact (h1.below h2).mono (by have := (HB0.out.trans h2).size; omega)
      have hjl : j < ls.length := by rw [HN.out]; exact hlt
      obtain ⟨bL, oL, rfl, hbL, -, hat⟩ := hLr.at (by omega)
      obtain ⟨Aj, cj, hcj, hc1, hc2, hLj⟩ := hat j hjl
      have hne := HNE.out _ (List.getElem_mem hjl)
      have hlv := HLV.out _ (List.getElem_mem hjl)
      have htk : ls.take j ++ [ls[j]] = ls.take (j + 1) := (List.take_succ_eq_append_getElem hjl).symm
      obtain ⟨l, hl⟩ : ∃ l, ls[j] = l := ⟨_, rfl⟩
      rw [hl] at hcj hc1 hLj hne hlv htk
      obtain ⟨n, hn⟩ : ∃ n, l.length = n := ⟨_, rfl⟩
      rw [hn] at hcj hc1 hLj
      obtain ⟨Av, cv, rfl, hv1, hv2⟩ := hfr.form
      obtain ⟨nv, hnv⟩ : ∃ n, (ls.take j).length = n := ⟨_, rfl⟩
      have hnv2 : nv = j := by rw [← hnv, List.length_take]; omega
      rw [hnv] at hox hfr hv1
      subst hnv2
      obtain ⟨y0, y1, y2⟩ := box3 hox
      have lO := lt_of hox
      have X2 := Lib.hid x2
      have LH := Lib.hid lH
      have Y2 := Lib.hid y2
      have LO := Lib.hid lO
      have HCJ := Lib.hid hcj
      have HBL := Lib.hid hbL
      have HLJ := Lib.hid hLj
      have HNEL := Lib.hid hne
      have HLVL := Lib.hid hlv
      have HNL := Lib.hid hn
      have HTK := Lib.hid htk
      have HFR := Lib.hid hfr
      have HOX := Lib.hid hox
      have HBEL := Lib.hid hbel
      have HTL := Lib.hid hnv
      clear y0 y1 y2 lO hcj hbL hLj hne hlv hn hl htk hfr hox hbel hHx hLr hat hjl hnv e1 e2 hc1 hc2 hv1 hv2
      go_upto_region 5 with (fail)
      clear x0 x1 x2 lH
      refine region_mask0 (fr := ?frA) 10 10 [17, 18, 19, 20, 21, 22, 23, 24, 25, 26] (fun i v W => match i with
          | 0 => v = .pointer (some ⟨bO, 2, none⟩)
          | 1 => v = .slice Av nv cv
          | 2 => ∃ g, v = .slice (some ⟨g, 0, none⟩) 0 0 ∧ Own W wr.heap.size v []
          | 3 => v = .pointer (some ⟨bH, 2, none⟩)
          | 4 => v = .slice (some ⟨bL, oL, none⟩) N c
          | 5 => v = .int .i64 (nv : Int)
          | 6 => v = .pointer (some ⟨bL, oL + nv, none⟩)
          | 7 => v = .slice Aj n cj
          | 8 => Own W wr.heap.size v l
          | 9 => ∃ u g, v = .slice (some ⟨g, 0, none⟩) 1 1 ∧ W.heap[g]? = some (.cells #[u] 45) ∧ Own W wr.heap.size u l
          | _ => True) rfl ?hBA (by kernel_rfl) (by kernel_rfl) ?hfrA ?hFA ?hopA ?htailA
      case hBA => kernel_rfl
      case hfrA =>
        intro us
        simp only [putL]
        go_simp
        rfl
      case hFA =>
        intro i v W W' hG h
        match i with
        | 0 => exact h
        | 1 => exact h
        | 2 => exact (let ⟨g, e, ho⟩ := h; ⟨g, e, own_below ho hG⟩)
        | 3 => exact h
        | 4 => exact h
        | 5 => exact h
        | 6 => exact h
        | 7 => exact h
        | 8 => exact own_below h hG
        | 9 => exact (let ⟨u, g, e, hp, ho⟩ := h; ⟨u, g, e, (hG.block g (lt_of hp)).trans hp, own_below ho hG⟩)
        | n + 10 => trivial
      case hopA =>
        intro i hi us W2 hG hd
        match i, hi with
        | 0, _ =>
          clear hd
          exact hop_value rfl rfl rfl (v := .pointer (some ⟨bO, 2, none⟩)) (W' := W2) (by go_simp) (Grows.refl _) rfl
        | 1, _ =>
          have h0 : (us 0) = .pointer (some ⟨bO, 2, none⟩) := hd 0 (by omega) (by kernel_rfl)
          clear hd
          have q := (hG.cell (b := bO) (o := 2) LO.out).trans Y2.out
          have ql := Nat.lt_of_lt_of_le LO.out hG.size
          exact hop_value rfl rfl rfl (v := .slice Av nv cv) (W' := W2) (by go_simp) (Grows.refl _) rfl
        | 2, _ =>
          clear hd
          exact hop_value rfl rfl rfl (v := .slice (some ⟨W2.heap.size, 0, none⟩) 0 0) (W' := W2.alloc (.cells #[] 44)) (by go_simp) (Grows.alloc _ _) ⟨W2.heap.size, rfl, lit0 W2 wr.heap.size hG.size⟩
        | 3, _ =>
          clear hd
          exact hop_value rfl rfl rfl (v := .pointer (some ⟨bH, 2, none⟩)) (W' := W2) (by go_simp) (Grows.refl _) rfl
        | 4, _ =>
          have h3 : (us 3) = .pointer (some ⟨bH, 2, none⟩) := hd 3 (by omega) (by kernel_rfl)
          clear hd
          have q := (hG.cell (b := bH) (o := 2) LH.out).trans X2.out
          have ql := Nat.lt_of_lt_of_le LH.out hG.size
          exact hop_value rfl rfl rfl (v := .slice (some ⟨bL, oL, none⟩) N c) (W' := W2) (by go_simp) (Grows.refl _) rfl
        | 5, _ =>
          clear hd
          exact hop_value rfl rfl rfl (v := .int .i64 (nv : Int)) (W' := W2) (by go_simp) (Grows.refl _) rfl
        | 6, _ =>
          have h4 : (us 4) = .slice (some ⟨bL, oL, none⟩) N c := hd 4 (by omega) (by kernel_rfl)
          have h5 : (us 5) = .int .i64 (nv : Int) := hd 5 (by omega) (by kernel_rfl)
          clear hd
          exact hop_value rfl rfl rfl (v := .pointer (some ⟨bL, oL + nv, none⟩)) (W' := W2) (by go_simp) (Grows.refl _) rfl
        | 7, _ =>
          have h6 : (us 6) = .pointer (some ⟨bL, oL + nv, none⟩) := hd 6 (by omega) (by kernel_rfl)
          clear hd
          have q := (hG.cell (b := bL) (o := oL + nv) HBL.out).trans HCJ.out
          have ql := Nat.lt_of_lt_of_le HBL.out hG.size
          exact hop_value rfl rfl rfl (v := .slice Aj n cj) (W' := W2) (by go_simp) (Grows.refl _) rfl
        | 8, _ =>
          have h2 : ∃ g, (us 2) = .slice (some ⟨g, 0, none⟩) 0 0 ∧ Own W2 wr.heap.size (us 2) [] := hd 2 (by omega) (by kernel_rfl)
          have h7 : (us 7) = .slice Aj n cj := hd 7 (by omega) (by kernel_rfl)
          clear hd
          obtain ⟨g2, e2, o2⟩ := h2
          rw [e2] at o2
          obtain ⟨v8, w8, r8, o8, b8⟩ := run_copy 45 W2 g2 wr.heap.size wr.heap.size (.slice Aj n cj) l HNEL.out HLVL.out o2 (HLJ.out.below hG)
          exact hop_value rfl rfl rfl (v := v8) (W' := w8) (run_append_op (t := 45) (s := .tmp 19) (x := .tmp 24) rfl e2 h7 r8) b8 (fown_base o8 fun b hb => Nat.le_trans hG.size (o8.lt b hb).1)
        | 9, _ =>
          have h8 : Own W2 wr.heap.size (us 8) l := hd 8 (by omega) (by kernel_rfl)
          clear hd
          obtain ⟨A8, d8, e8, -, -⟩ := own_form h8
          exact hop_value rfl rfl rfl (v := .slice (some ⟨W2.heap.size, 0, none⟩) 1 1) (W' := W2.alloc (.cells #[us 8] 45)) (by rw [e8]; go_simp) (Grows.alloc _ _) ⟨us 8, W2.heap.size, rfl, heap_alloc_new W2 _, own_below h8 (Grows.alloc _ _)⟩
        | d + 10, h => exact absurd h (by omega)
      case htailA =>
        intro us W2 hG hf
        have h1 : (us 1) = .slice Av nv cv := hf 1 (by omega)
        have h9 : ∃ u g, (us 9) = .slice (some ⟨g, 0, none⟩) 1 1 ∧ W2.heap[g]? = some (.cells #[u] 45) ∧ Own W2 wr.heap.size u l := hf 9 (by omega)
        clear hf
        simp only [List.drop_succ_cons, List.drop_zero]
        obtain ⟨u, g9, e9, p9, h8⟩ := h9
        obtain ⟨A8, d8, e8, hd81, hd82⟩ := own_form h8
        rw [HNL.out] at e8 hd81
        have hLl : Lies valL W2 W2.heap.size (.slice (some ⟨g9, 0, none⟩) 1 1) [u] := ⟨_, 1, rfl, by simp, by unfold maxLen; omega, .inr ⟨g9, 0, lt_of p9, rfl, fun j x hx => by
          rw [Nat.zero_add, cell_of_row _ _ _ #[u] 45 (0, 0) p9]
          rw [valL_cells] at hx
          simpa using hx⟩⟩
        have HLL := Lib.hid hLl
        have HF2 := Lib.hid (HFR.out.grow hG)
        have HLW := Lib.hid (HFR.out.lows2 hG)
        have hub : ∀ b, u.ownBlock = some b → wr.heap.size ≤ b := fun b hb => (h8.lt b hb).1
        have h9 := fown_base h8 (base' := bO + 1) fun b hb => by have := hub b hb; have := LO.out; omega
        have H9 := Lib.hid h9
        have HUB := Lib.hid hub
        have HG2 := Lib.hid hG
        have hbase : bO + 1 ≤ W2.heap.size := by have := LO.out; have := hG.size; omega
        have q0 := (hG.block bO LO.out).trans HOX.out
        have HO2 := Lib.hid q0
        have LO2 := Lib.hid (lt_of q0)
        obtain ⟨y0, y1, y2⟩ := box3 q0
        have ly := lt_of q0
        clear h8 h9 hub hG q0 p9 hLl e8 hd81 hd82
        rw [h1, e9]
        clear h1 e9
        go_wp2_with (at_builtin; refine wpList_fresh (base := bO + 1) W2 rfl _ _ rfl (.slice Av nv cv) (.slice (some ⟨g9, 0, none⟩) 1 1) u (ls.take nv) l rfl rfl HLL.out wr.heap.size HF2.out (fun b hb => (HFR.out.lt b hb).2) HLW.out H9.out HUB.out (by have := HTL.out; omega) hbase ?_; intro v' w3 ho3 hq3 hg3; rw [HTK.out] at ho3; have hvo : ∀ b, (Value.slice Av nv cv).ownBlock = some b → b ≠ bO := (fun b hb => by have := (HFR.out.lt b hb).1; omega); have hox3 := (hg3.block bO ly (fun e => hvo bO e.symm rfl)).trans HO2.out; obtain ⟨A3, c3, e3, -, -⟩ := ho3.form; obtain ⟨n3, hn3⟩ : ∃ n, (ls.take (nv + 1)).length = n := ⟨_, rfl⟩; rw [hn3] at e3; subst e3; clear hn3; obtain ⟨i0, i1, i2⟩ := box3 hox3; have f2 : w3.frozen? ⟨bO, 2, none⟩ = false := (by simp [World.frozen?, hox3]); have l3 := lt_of hox3; have HO3 := Lib.hid ho3; have HG3 := Lib.hid hg3; have HOX3 := Lib.hid hox3; clear ho3 hq3 hg3 hox3 hvo)
        have hx3 := set1 (o := 2) (.slice A3 n3 c3) HOX3.out
        have hf3 := HO3.out.off (grown_set w3 bO 2 (.slice A3 n3 c3)) (by omega)
        have hb3 := ((HBEL.out.trans (HG2.out.mono (by have := LO.out; omega))).grown HG3.out (by omega) (fun x e => by have := (HFR.out.lt x e).1; omega)).setCell (p := ⟨bO, 2, none⟩) (Nat.le_refl _) (.slice A3 n3 c3)
        exact ⟨⟨nv + 1, .slice A3 n3 c3, by go_num, hlt, hx3, hf3, hb3⟩, by simp [intOf]; omega⟩
    · obtain rfl : j = N := by omega
      rw [List.take_of_length_le (by rw [HN.out]; exact Nat.le_refl _)] at hfr
      obtain ⟨Av, cv, rfl, -, -⟩ := hfr.form
      rw [HN.out] at hfr hox
      have hRx := (hbel.block bR (by omega)).trans P1.out
      obtain ⟨z0, z1, z2⟩ := box3 hRx
      obtain ⟨y0, y1, y2⟩ := box3 hox
      have lR := lt_of hRx
      have lO := lt_of hox
      have fR : ∀ i, wr.frozen? ⟨bR, i, none⟩ = false := fun i => by simp [World.frozen?, hRx]
      have f5 := hfr.off (grown3 (b := bR) (.int .i64 k) (.int .i64 g) (.slice Av j cv)) (by omega)
      have r5 := set3 hRx (.int .i64 k) (.int .i64 g) (.slice Av j cv)
      have hb5 := HBH.out
      have b5 : Below w.heap.size w (((wr.setCell ⟨bR, 0, none⟩ (.int .i64 k)).setCell ⟨bR, 1, none⟩ (.int .i64 g)).setCell ⟨bR, 2, none⟩ (.slice Av j cv)) := below3 (HB0.out.trans (hbel.mono (by omega))) (by omega) _ _ _
      obtain ⟨W5, hW5⟩ : ∃ W, ((wr.setCell ⟨bR, 0, none⟩ (.int .i64 k)).setCell ⟨bR, 1, none⟩ (.int .i64 g)).setCell ⟨bR, 2, none⟩ (.slice Av j cv) = W := ⟨_, rfl⟩
      rw [hW5] at f5 r5 b5
      obtain ⟨t0, t1, t2⟩ := box3 r5
      have HW5 := Lib.hid hW5
      have F5 := Lib.hid f5
      have B5 := Lib.hid b5
      have T0 := Lib.hid t0
      have T1 := Lib.hid t1
      have T2 := Lib.hid t2
      have hne : bO ≠ bR := by omega
      clear hW5 f5 r5 b5 t0 t1 t2 hfr hRx hox hbel hHx hlt e1 e2 hb5
      go_wp2
      rw [HW5.out]
      refine bodyPost_ret (v := hv k g (.slice Av j cv)) (by simp [results, Try.results19, go_sem, T0.out, T1.out, T2.out]) rfl ⟨Av, cv, rfl, F5.out.lower ?_, B5.out⟩
      have := B2.out
      have := HBH.out
      omega

end Go.Proofs.Ytoplbjanemjebaa
