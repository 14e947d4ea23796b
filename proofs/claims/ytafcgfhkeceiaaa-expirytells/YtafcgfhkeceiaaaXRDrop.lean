/- The contract of skylightref07.Drop. -/
import Derived.Test.YtafcgfhkeceiaaaXDrop
namespace Go.Proofs.Ytafcgfhkeceiaaa
open Go.RowKit Go.Shelf Go.Proofs.Rw Go.Proofs.Lh

/-- One cell of a block of another type is written: levels stay. -/
theorem levs_set1 {T : TypeId} (h1 : T ≠ 38) (h2 : T ≠ 41) {p o : Nat} {W : World} {cs : Array Value} (h : W.heap[p]? = some (.cells cs T)) (x : Value) {v : Value} {ls : Lv} (hL : Levs W W.heap.size v ls) : Levs (W.setCell ⟨p, o, none⟩ x) (W.setCell ⟨p, o, none⟩ x).heap.size v ls := by
  have ht : Ty W T p := ⟨_, _, h⟩
  exact hL.other (grown_set W p o x) fun b e => by
    cases e
    exact ⟨fun h => Ty.ne ht h h1 rfl, fun h => Ty.ne ht h h2 rfl⟩

set_option maxRecDepth 100000 in
set_option maxHeartbeats 4000000 in
theorem rdrop_any (k : Nat) (g : Int) (ls : Lv) (hmd : Made k ls) (f v : Nat) (hf : f < 18446744073709551616) (w : World) (A : Option Addr) (c : Nat) (h : Levs w w.heap.size (.slice A ls.length c) ls) :
    Calls Try.prog 13 #[hv k g (.slice A ls.length c), .int .u64 (f : Int), .int .u64 (v : Int)] w fun e w' => ∃ A' c', e = .returned (hv k g (.slice A' (dropL f v ls).length c')) ∧ Levs w' w'.heap.size (.slice A' (dropL f v ls).length c') (dropL f v ls) ∧ Below w.heap.size w w' := by
  have hll : ls.length ≤ 1000 := by have := hmd.len; omega
  have hlev := fun i => hmd.lev i
  obtain ⟨N, hN⟩ : ∃ N, ls.length = N := ⟨_, rfl⟩
  obtain ⟨W0, hW0, hsz, p0, p1, p2, hB0⟩ := heap_three w (.cells #[.int .i64 k, .int .i64 g, .slice A N c] 28) (.cells #[.int .i64 0, .int .i64 0, .slice none 0 0] 28) (.cells #[.int .i64 k, .int .i64 g, .slice none 0 0] 28)
  have hall := many_all f v ls
  have hlast : (dropL f v ls).length = manyTo f v ls N := by unfold manyTo; rw [← hN, List.take_length]; rfl
  rw [hN] at hll hall ⊢
  have HN := Lib.hid hN
  have HW0 := Lib.hid hW0
  have HSZ := Lib.hid hsz
  have P0 := Lib.hid p0
  have P1 := Lib.hid p1
  have P2 := Lib.hid p2
  have HB0 := Lib.hid hB0
  have HL := Lib.hid h
  have HLV := Lib.hid hlev
  have HALL := Lib.hid hall
  have HLAST := Lib.hid hlast
  clear h hmd hN hW0 hsz p0 p1 p2 hB0 hlev hall hlast
  go_enter Try.func13, Try.ntmps13
  go_upto_region 2 with (fail)
  rw [← HW0.out]
  clear HW0
  obtain ⟨bO, hbO⟩ : ∃ b, w.heap.size + 2 = b := ⟨_, rfl⟩
  have p2' : W0.heap[bO]? = some (.cells #[.int .i64 k, .int .i64 g, .slice none 0 0] 28) := by rw [← hbO]; exact P2.out
  have P2' := Lib.hid p2'
  clear p2'
  rw [show w.heap.size + 1 + 1 = bO from hbO]
  have hbO2 : w.heap.size + 1 < bO := by omega
  have hO0 : bO < W0.heap.size := by have := HSZ.out; omega
  have HBO := Lib.hid hbO
  clear P2 hbO
  go_wp2
  go_loopw [8, 9] (fun s8 s9 wr => ∃ (i : Nat) (va : Value), s9 = .int .i64 (i : Int) ∧ s8 = .int .i64 (manyTo f v ls i : Int) ∧ i ≤ N ∧ wr.heap[bO]? = some (.cells #[.int .i64 (k : Int), .int .i64 g, va] 28) ∧ OwnL (fun b => bO < b) wr (bO + 1) va ((ls.take i).map (cutL f v)) ∧ Below bO W0 wr) (fun _ s9 _ => N - (intOf s9).toNat)
  case atStart => exact ⟨0, _, rfl, rfl, Nat.zero_le _, P2'.out, OwnLevs.nil _ _ _ _, Below.refl _ _⟩
  case round =>
    obtain ⟨i, va, rfl, rfl, hiN, hox, how, hbel⟩ := hrel
    have hbw : Below w.heap.size w wr := HB0.out.trans (hbel.mono (by omega))
    have hh := (hbel.block w.heap.size (by omega)).trans P0.out
    obtain ⟨x0, x1, x2⟩ := box3 hh
    have lh := lt_of hh
    have lo := lt_of hox
    by_cases hlt : i < N
    · have hiL : i < ls.length := by rw [HN.out]; exact hlt
      have hLr : Levs wr w.heap.size (.slice A N c) ls := by have := HL.out.below hbw; rw [HN.out] at this; exact this
      obtain ⟨b0, o0, rfl, hb0, -, hc⟩ := hLr.at (by omega)
      obtain ⟨Ai, ci, u0, u1, u2, hLi⟩ := hc i hiL
      have hl3 := HLV.out i
      rw [lev_lt hiL] at hl3
      have hms := many_succ (f := f) (w := v) hiL
      have htk : (ls.take (i + 1)).map (cutL f v) = (ls.take i).map (cutL f v) ++ [cutL f v ls[i]] := by rw [List.take_succ_eq_append_getElem hiL, List.map_append]; rfl
      obtain ⟨l, hl⟩ : ∃ l, ls[i] = l := ⟨_, rfl⟩
      rw [hl] at u0 u1 hLi hl3 hms htk
      obtain ⟨n, hn⟩ : ∃ n, l.length = n := ⟨_, rfl⟩
      rw [hn] at u0 u1 hl3
      have hLn : Lies spL wr w.heap.size (.slice Ai n ci) l := by rw [← hn]; exact hLi
      obtain ⟨mn, hmn⟩ : ∃ mn, manyTo f v ls i = mn := ⟨_, rfl⟩
      have hmi : mn ≤ i := by rw [← hmn]; exact many_le f v ls i
      rw [hmn] at hms ⊢
      have hlen : ((ls.take i).map (cutL f v)).length = i := by rw [List.length_map, List.length_take]; omega
      obtain ⟨low, hlow⟩ : ∃ low, (ls.take i).map (cutL f v) = low := ⟨_, rfl⟩
      rw [hlow] at how hlen htk
      have lb0 : b0 < wr.heap.size := by omega
      have hvo : va.ownBlock ≠ some bO := fun e => by have := (how.lt bO e).1; omega
      have HMS := Lib.hid hms
      have HTK := Lib.hid htk
      have HLN := Lib.hid hLn
      have HNL := Lib.hid hn
      have HLL := Lib.hid hlen
      have HOX := Lib.hid hox
      have HOW := Lib.hid how
      have HBEL := Lib.hid hbel
      have HH := Lib.hid hh
      have U0 := Lib.hid u0
      have HVO := Lib.hid hvo
      have i1000 : i < 1000 := by omega
      clear hms htk hLn hn hlen hox how hbel hh hbw hLr hc hLi hl hmn hlow hvo x0 x1 u0 HLV HALL HLAST
      rename World => wo
      go_wp2
      go_loopw [10, 11] (fun s10 s11 wr => ∃ j : Nat, s11 = .int .i64 (j : Int) ∧ j ≤ n ∧ Own wr wo.heap.size s10 (cutL f v (l.take j)) ∧ Below wo.heap.size wo wr) (fun _ s11 _ => n - (intOf s11).toNat)
      case atStart => exact ⟨0, rfl, Nat.zero_le _, World.ownsRow_nil _ _ _ _, Below.refl _ _⟩
      case round =>
        obtain ⟨j, rfl, hj, hown, hbel⟩ := hrel
        have hh := (hbel.block w.heap.size lh).trans HH.out
        clear x2
        obtain ⟨x0, x1, x2⟩ := box3 hh
        have lh2 := lt_of hh
        have u0 := (hbel.cell (p := ⟨b0, o0 + i, none⟩) lb0).trans U0.out
        have lb2 : b0 < wr.heap.size := Nat.lt_of_lt_of_le lb0 hbel.size
        obtain ⟨As, cs, rfl, hs1, hs2⟩ := own_form hown
        by_cases hjt : j < n
        · have hjl : j < l.length := by rw [HNL.out]; exact hjt
          obtain ⟨b3, o3, rfl, hb3, -, hc3⟩ := sp_at (HLN.out.below (hbel.mono (by omega))) (by omega)
          obtain ⟨v0, v1⟩ := hc3 j hjl
          have lb3 : b3 < wr.heap.size := by omega
          have hcs := cut_snoc (f := f) (w := v) hjl
          have hcl := cutL_len f v (l.take j)
          rw [List.length_take] at hcl
          obtain ⟨x, hx⟩ : ∃ x, l[j] = x := ⟨_, rfl⟩
          rw [hx] at v0 v1 hcs
          have hold := fun W => rold_any x.2 f v W hf
          obtain ⟨S, hS⟩ : ∃ S, cutL f v (l.take j) = S := ⟨_, rfl⟩
          rw [hS] at hcs hown hcl hs1
          rw [hS]
          cases ho : oldB x.2 f v with
          | true =>
            simp only [ho] at hold
            rw [ho, if_pos rfl] at hcs
            have HOLD := Lib.hid hold
            have HOWN := Lib.hid hown
            have HBEL2 := Lib.hid hbel
            have HCS := Lib.hid hcs
            clear hold ho hown hbel hcs hc3 hx hS hcl hjl hh
            go_wp2_with (go_at_call 15; refine (HOLD.out _).mono ?_; rintro e w9 ⟨rfl, rfl⟩)
            refine ⟨⟨j + 1, by go_num, hjt, ?_, HBEL2.out⟩, by simp [intOf]; omega⟩
            rw [HCS.out]
            exact HOWN.out
          | false =>
            simp only [ho] at hold
            rw [ho, if_neg (by simp)] at hcs
            have HOLD := Lib.hid hold
            have HOWN := Lib.hid hown
            have HBEL2 := Lib.hid hbel
            have HCS := Lib.hid hcs
            have hsl : S.length ≤ 1000000 := by omega
            clear hold ho hown hbel hcs hc3 hx hS hcl hjl hh
            go_wp2_with (first
              | (go_at_call 15; refine (HOLD.out _).mono ?_; rintro e w9 ⟨rfl, rfl⟩)
              | (at_builtin; refine wpList_app 41 _ 16 info_sp Try.underlying38 rfl (by decide) (by decide) _ rfl _ _ rfl wo.heap.size _ _ S [(x.1, x.2)] _ rfl (HOWN.out.alloc _) rfl (lit1 _ _ rfl x.1 x.2) (sp_one _) (by simp; omega) (by have := HBEL2.out.size; simp; omega) ?_; intro v' w3 ho3 hg3; have HO3 := Lib.hid ho3; have HG3 := Lib.hid hg3; clear ho3 hg3))
            refine ⟨⟨j + 1, by go_num, hjt, ?_, (HBEL2.out.alloc HBEL2.out.size _).grown HG3.out (by have := HBEL2.out.size; simp; omega) (fun j hj => (HOWN.out.lt j hj).1)⟩, by simp [intOf]; omega⟩
            rw [HCS.out]
            exact HO3.out
        · have hS : cutL f v (l.take j) = cutL f v l := by rw [List.take_of_length_le (by rw [HNL.out]; omega)]
          have hcl := cutL_len f v l
          rw [hS] at hown hs1
          rw [hS]
          have hms := HMS.out
          obtain ⟨S, hSS⟩ : ∃ S, cutL f v l = S := ⟨_, rfl⟩
          rw [hSS] at hown hs1 hms hcl
          rw [hSS]
          have htk := HTK.out
          rw [hSS] at htk
          have hty : ∀ b, (Value.slice As S.length cs).ownBlock = some b → wo.heap.size ≤ b ∧ Ty wr 41 b := by
            intro b hb
            refine ⟨(hown.lt b hb).1, ?_⟩
            rcases hown.2 with ⟨e, -⟩ | ⟨g', cap, cur, e, -, hg', -⟩
            · rw [e] at hb; cases hb
            · rw [e] at hb
              injection hb with hb
              exact ⟨cur, (0, 0), by rw [← show g' = b from hb]; exact hg'⟩
          have hlie := Lies.of_own (L := spL) hown
          have hox := (hbel.block bO lo).trans HOX.out
          obtain ⟨e0, e1, e2⟩ := box3 hox
          have le := lt_of hox
          have hoy := HOW.out.grow hbel
          have hbase : bO + 1 ≤ wr.heap.size := by have := hbel.size; omega
          have hvne : ∀ b, wo.heap.size ≤ b → va.ownBlock ≠ some b := fun b hb e => by have := (HOW.out.lt b e).2; omega
          obtain ⟨ns, hns⟩ : ∃ ns, S.length = ns := ⟨_, rfl⟩
          rw [hns] at hty hlie hcl
          rw [hns]
          have hnsn : ns ≤ 1026 := by have := HNL.out; omega
          have HTY := Lib.hid hty
          have HLIE := Lib.hid hlie
          have HOX2 := Lib.hid hox
          have HOY := Lib.hid hoy
          have HVNE := Lib.hid hvne
          have HMS2 := Lib.hid hms
          have HTK2 := Lib.hid htk
          have HNS := Lib.hid hns
          have HBEL2 := Lib.hid hbel
          have hlen2 : (low ++ [S]).length = i + 1 := by rw [List.length_append, HLL.out]; rfl
          have HLL2 := Lib.hid hlen2
          clear hS hcl hown hms hSS htk hty hlie hox hoy hvne hns hbel hh hlen2 hs1 hs2 HMS HTK
          go_upto_region 13 with (at_builtin; refine wpList_lev _ 24 info_row Try.underlying26 rfl (by decide) wr rfl _ _ rfl (bO + 1) va (.slice As ns cs) low S rfl HOY.out wr.heap.size rfl rfl HLIE.out (fun _ b hb => ⟨(by have := (HTY.out b hb).1; omega), HVNE.out b (HTY.out b hb).1, (HTY.out b hb).2⟩) (by rw [HLL.out]; omega) hbase ?_; intro v' w3 ho3 hq3 hg3; obtain ⟨g2, cap2, hv2, hg21, hg22, hcap2⟩ := ho3.addr (by rw [HLL2.out]; omega); rw [HLL2.out] at hv2 hcap2; subst hv2; have hox3 := (hg3.block bO (by simp; omega) (fun e => HVO.out e.symm)).trans ((Below.heap_alloc _ _ _ le).trans HOX2.out); obtain ⟨i0, i1, i2⟩ := box3 hox3; have f2 : w3.frozen? ⟨bO, 2, none⟩ = false := (by simp [World.frozen?, hox3]); have l3 := lt_of hox3; have hne : g2 ≠ bO := (by omega); have HO3 := Lib.hid ho3; have HQ3 := Lib.hid hq3; have HG3 := Lib.hid hg3; have HOX3 := Lib.hid hox3; clear ho3 hq3 hg3 hox3)
          have hfin : wr.grownBy w3 va.ownBlock := grown_trans (grown_below ((Below.refl _ wr).alloc (Nat.le_refl _) _)) HG3.out
          have hbl3 : Below bO W0 w3 := (HBEL.out.trans (HBEL2.out.mono (by omega))).grown hfin (by have := HBEL.out.size; have := HBEL2.out.size; omega) fun q e => by have := (HOW.out.lt q e).1; omega
          have hbl4 := hbl3.setCell (p := ⟨bO, 2, none⟩) (Nat.le_refl _) (.slice (some ⟨g2, 0, none⟩) (i + 1) cap2)
          have hox4 := set1 (o := 2) (.slice (some ⟨g2, 0, none⟩) (i + 1) cap2) HOX3.out
          have how4 := HO3.out.off (grown_set w3 bO 2 (.slice (some ⟨g2, 0, none⟩) (i + 1) cap2)) (fun e => by injection e with e; exact hne e) (fun b hb => Nat.ne_of_gt hb)
          rw [← HTK2.out] at how4
          have HBL4 := Lib.hid hbl4
          have HOX4 := Lib.hid hox4
          have HOW4 := Lib.hid how4
          clear hfin hbl3 hbl4 hox4 how4 HG3 HQ3 HO3 HOX3
          rcases Nat.eq_zero_or_pos ns with h0 | h0
          · subst h0
            have hS0 : S = [] := List.eq_nil_of_length_eq_zero HNS.out
            have hms := HMS2.out
            rw [if_pos hS0] at hms
            have HM3 := Lib.hid hms
            clear hms hS0
            go_wp2
            refine ⟨⟨i + 1, _, by go_num, by rw [HM3.out], hlt, HOX4.out, HOW4.out, HBL4.out⟩, by simp [intOf]; omega⟩
          · have hS0 : S ≠ [] := fun e => by have := HNS.out; rw [e] at this; simp at this; omega
            have hms := HMS2.out
            rw [if_neg hS0] at hms
            have HM3 := Lib.hid hms
            have g1 : decide (0 < ns) = true := by simpa using h0
            clear hms hS0 h0
            go_wp2
            refine ⟨⟨i + 1, _, by go_num, by rw [HM3.out]; go_num, hlt, HOX4.out, HOW4.out, HBL4.out⟩, by simp [intOf]; omega⟩
    · have hie : i = N := by omega
      subst hie
      have hr := (hbel.block (w.heap.size + 1) (by omega)).trans P1.out
      rw [List.take_of_length_le (by rw [HN.out]; exact Nat.le_refl _)] at how
      obtain ⟨Av, cv, rfl, hcv, hcm⟩ := how.form
      have hml : (ls.map (cutL f v)).length = i := by rw [List.length_map]; exact HN.out
      have hmi := many_le f v ls i
      have hL4 := how.levs
      have hres : Levs wr wr.heap.size (.slice Av (manyTo f v ls i) cv) (dropL f v ls) := by
        have := hL4.take (manyTo f v ls i) (by rw [hml]; exact hmi)
        rw [HALL.out] at this
        exact this
      rw [hml] at hox hcv
      obtain ⟨mn, hmn⟩ : ∃ mn, manyTo f v ls i = mn := ⟨_, rfl⟩
      rw [hmn] at hmi hres ⊢
      have hres2 := levs_set1 (o := 2) (by decide) (by decide) hox (.slice Av mn cv) hres
      have hr2 : (wr.setCell ⟨bO, 2, none⟩ (.slice Av mn cv)).heap[w.heap.size + 1]? = some (.cells #[.int .i64 0, .int .i64 0, .slice none 0 0] 28) := (Below.heap_setCell _ _ _ _ (by simp; omega)).trans hr
      have hres3 := levs_set3 (by decide) (by decide) hr2 (.int .i64 k) (.int .i64 g) (.slice Av mn cv) hres2
      have hr3 := set3 hr2 (.int .i64 k) (.int .i64 g) (.slice Av mn cv)
      have hb3 := below3 (hbw.setCell (p := ⟨bO, 2, none⟩) (by show w.heap.size ≤ bO; omega) (.slice Av mn cv)) (b := w.heap.size + 1) (by omega) (.int .i64 k) (.int .i64 g) (.slice Av mn cv)
      obtain ⟨z0, z1, z2⟩ := box3 hr
      obtain ⟨y0, y1, y2⟩ := box3 hox
      obtain ⟨t0, t1, t2⟩ := box3 hr3
      have f0 : ∀ i, wr.frozen? ⟨bO, i, none⟩ = false := fun i => by simp [World.frozen?, hox]
      have f1 : ∀ i, wr.frozen? ⟨w.heap.size + 1, i, none⟩ = false := fun i => by simp [World.frozen?, hr]
      have l1 := lt_of hr
      have n1 : bO ≠ w.heap.size + 1 := by omega
      have hlm : (dropL f v ls).length = mn := HLAST.out.trans hmn
      have HLM := Lib.hid hlm
      have HR3 := Lib.hid hres3
      clear hlm
      have HB3 := Lib.hid hb3
      have T0 := Lib.hid t0
      have T1 := Lib.hid t1
      have T2 := Lib.hid t2
      clear hres hres2 hr2 hres3 hr3 hb3 t0 t1 t2 hL4 how hox hr hbel hbw hh hml hmn HALL HLAST hlt
      go_wp2
      refine bodyPost_ret (v := hv k g (.slice Av mn cv)) (by simp [results, Try.results13, go_sem, T0.out, T1.out, T2.out]) rfl ⟨Av, cv, by rw [HLM.out], by rw [HLM.out]; exact HR3.out, HB3.out⟩

end Go.Proofs.Ytafcgfhkeceiaaa
