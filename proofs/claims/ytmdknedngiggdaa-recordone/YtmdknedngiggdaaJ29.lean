/- The contract of skylightref11.Put. · The contract of record.Put. · The law's own first look: a text there and back. · skylightlaw11.awake: one unit. -/
import Derived.Test.YtmdknedngiggdaaJ24
import Derived.Test.YtmdknedngiggdaaJ26
import Derived.Test.YtmdknedngiggdaaJ21
import Derived.BigQuiet
import Derived.Deep.DeepCutAuto
import Derived.Deep.CutBlock
import Derived.Deep.RegionWith
import Derived.Deep.RegionHeld3
import Derived.StillTailTactics
import Derived.Lib.SlBytesConst
import Derived.Test.YtmdknedngiggdaaJ05
import Derived.Test.YtmdknedngiggdaaJ08
import Derived.Test.YtmdknedngiggdaaJ28
import Derived.Test.YtmdknedngiggdaaJ19
section
/- The contract of skylightref11.Put. -/
namespace Go.Proofs.Ytmdknedngiggdaa
open Go.RowKit Go.Shelf Go.Proofs.Vm Go.Proofs.Rw Go.Proofs.Lh
open Go.Proofs.Rc (putM rawW ofM encLv encSp pairW levelW endT wTo aTo maxT)

/-- What the document's Put keeps: the histogram's box, and what is written. -/
structure QSt (w wr : World) (h3 : Array Value) (bs : List Int) (v : Value) : Prop where
  bel : Below w.heap.size w wr
  his : wr.heap[w.heap.size]? = some (.cells h3 27)
  row : wr.ownsRow (w.heap.size + 1) 5 1 v bs.length (bs.map (Value.int .u8))
theorem QSt.size {w wr : World} {h3 : Array Value} {bs : List Int} {v : Value} (h : QSt w wr h3 bs v) : w.heap.size + 1 ≤ wr.heap.size := lt_of h.his
theorem QSt.num {w wr w1 : World} {h3 : Array Value} {bs : List Int} {v : Value} (h : QSt w wr h3 bs v) (hb : Below wr.heap.size wr w1) : QSt w w1 h3 bs v :=
  ⟨thn h.bel hb, (hb.block _ (lt_of h.his)).trans h.his, ownsRow_below h.row hb⟩
theorem QSt.app {w wr w1 : World} {h3 : Array Value} {bs cs : List Int} {v v' : Value} (h : QSt w wr h3 bs v) (ho : w1.ownsRow (w.heap.size + 1) 5 1 v' cs.length (cs.map (Value.int .u8))) (hg : wr.grownBy w1 v.ownBlock) : QSt w w1 h3 cs v' := by
  have hs := h.size
  refine ⟨h.bel.grown hg (by omega) (fun k hk => by have := (h.row.lt k hk).1; omega), ?_, ho⟩
  refine (hg.block _ (by omega) fun e => ?_).trans h.his
  have := (h.row.lt _ e.symm).1
  omega
theorem QSt.alloc {w wr : World} {h3 : Array Value} {bs : List Int} {v : Value} (h : QSt w wr h3 bs v) (o : Obj) : QSt w (wr.alloc o) h3 bs v := h.num ((Below.refl _ _).alloc (Nat.le_refl _) _)

set_option maxRecDepth 100000 in
set_option maxHeartbeats 4000000 in
theorem refPutH_any (k g : Int) (ls : Lv) (hl : ls.length ≤ 1000000) (hlv : ∀ i, (lev ls i).length ≤ 1000000) (hcnt : ls.flatten.length ≤ 20000) (w : World) (A : Option Addr) (c : Nat) (h : Reads w w.heap.size (.slice A ls.length c) ls) :
    Calls Try.prog 12 #[hv k g (.slice A ls.length c)] w fun e w' => ∃ v, e = .returned v ∧ w'.ownsRow w.heap.size 5 1 v (putM (k, g, ls)).length ((putM (k, g, ls)).map (Value.int .u8)) ∧ Below w.heap.size w w' := by
  obtain ⟨W0, hW0⟩ : ∃ W, w.alloc (.cells #[.int .i64 k, .int .i64 g, .slice A ls.length c] 27) = W := ⟨_, rfl⟩
  have hb0 : Below w.heap.size w W0 := by rw [← hW0]; exact (Below.refl _ w).alloc (Nat.le_refl _) _
  have hp0 : W0.heap[w.heap.size]? = some (.cells #[.int .i64 k, .int .i64 g, .slice A ls.length c] 27) := by rw [← hW0]; exact heap_alloc_new w _
  have hz0 : W0.heap.size = w.heap.size + 1 := by rw [← hW0]; simp
  have hch := fun W hL => rhist_any k g ls hl hlv W A c hL
  by_cases hc : chk k g ls = 0
  · obtain ⟨⟨k2, k1⟩, ⟨g0, g1⟩, hg⟩ := Rc.chk_zero hc
    obtain ⟨kn, rfl⟩ : ∃ n : Nat, k = (n : Int) := ⟨k.toNat, by omega⟩
    obtain ⟨gn, rfl⟩ : ∃ n : Nat, g = (n : Int) := ⟨g.toNat, by omega⟩
    obtain ⟨-, q52, hT⟩ := Rc.good_parts hg
    have hput : putM ((kn : Int), (gn : Int), ls) = vput kn ++ vput gn ++ vput ls.length ++ wTo ls.reverse ls.length := by
      rw [Rc.wTo_all]
      unfold putM
      rw [if_pos hc]
      unfold ofM
      simp only [Int.toNat_natCast]
    rw [hput]
    rw [hc] at hch
    obtain ⟨R, hR⟩ : ∃ R, ls.reverse = R := ⟨_, rfl⟩
    rw [hR] at hT ⊢
    have hRl : R.length = ls.length := by rw [← hR, List.length_reverse]
    have hRf : R.flatten.length ≤ 20000 := by rw [← hR]; simpa using hcnt
    have hRb : ∀ l ∈ R, l.length ≤ 1000000 := by
      intro l hl'
      rw [← hR, List.mem_reverse] at hl'
      obtain ⟨i, hi, rfl⟩ := List.getElem_of_mem hl'
      rw [← lev_lt hi]
      exact hlv i
    have hwl := Rc.wTo_len hT hRb
    obtain ⟨N, hN⟩ : ∃ N, ls.length = N := ⟨_, rfl⟩
    have b1 := vput_len10 kn (by omega)
    have b2 := vput_len10 gn (by omega)
    have b3 := vput_len10 ls.length (by omega)
    have hL0 := h.grow hb0
    rw [hN] at q52 hch b3 hl hL0 hW0 hp0 h ⊢
    obtain ⟨Q0, hQ0⟩ : ∃ Q, vput kn ++ vput gn ++ vput N = Q := ⟨_, rfl⟩
    rw [hQ0]
    have HQ0 := Lib.hid hQ0
    have HN := Lib.hid hN
    have HR := Lib.hid hR
    have HRL := Lib.hid hRl
    have HRF := Lib.hid hRf
    have HT := Lib.hid hT
    have HWL := Lib.hid hwl
    have HW0 := Lib.hid hW0
    have HB0 := Lib.hid hb0
    have HP0 := Lib.hid hp0
    have HL0 := Lib.hid hL0
    have HLV := Lib.hid hlv
    have HH := Lib.hid h
    have HCH := Lib.hid hch
    have B1 := Lib.hid b1
    have B2 := Lib.hid b2
    have B3 := Lib.hid b3
    have HZ0 := Lib.hid hz0
    obtain ⟨x0, x1, x2⟩ := box3 hp0
    have lh := lt_of hp0
    have kk : (kn : Int) ≤ 1024 := k1
    have gg : (gn : Int) ≤ 4 := g1
    have nn : (N : Int) ≤ 52 := by omega
    clear h hQ0 hch hput hc hg hcnt hR hRl hRf hRb hT hwl hN b1 b2 b3 hL0 hW0 hb0 hp0 hlv hl k1 k2 g0 g1 hz0
    go_enter Try.func12, Try.ntmps12
    go_upto_region 1 with (fail)
    rw [HW0.out]
    clear HW0
    go_upto_region 3 with (go_at_call 23; (with_reducible refine (HCH.out _ HL0.out).mono ?_); rintro e w1 ⟨rfl, hb1⟩)
    have hb01 := HB0.out.trans (hb1.mono (by rw [HZ0.out]; omega))
    have hq1 : QSt w (w1.alloc (.cells #[] 5)) #[.int .i64 (kn : Int), .int .i64 (gn : Int), .slice A N c] [] (.slice (some ⟨w1.heap.size, 0, none⟩) 0 0) :=
      ⟨hb01.alloc hb01.size _, (Below.heap_alloc _ _ _ (lt_of ((hb1.block _ (lt_of HP0.out)).trans HP0.out))).trans ((hb1.block _ (lt_of HP0.out)).trans HP0.out), World.ownsRow_made w1 #[] 0 (by have := lt_of ((hb1.block _ (lt_of HP0.out)).trans HP0.out); omega) (by decide) rfl⟩
    have HQ1 := Lib.hid hq1
    obtain ⟨x0, x1, x2⟩ := box3 ((hb1.block _ (lt_of HP0.out)).trans HP0.out)
    have lh := lt_of ((hb1.block _ (lt_of HP0.out)).trans HP0.out)
    clear hb01 hq1 hb1 HL0 HP0 HCH HB0 HZ0
    go_upto_region 4 with (first
      | (go_at_call 32; (with_reducible refine (rfNum_own kn (by omega) _).mono ?_); rintro e wn ⟨vn, rfl, hn, hbn⟩; have HNN := Lib.hid hn; have HBN := Lib.hid hbn; clear hn hbn)
      | (at_builtin; refine wpList_app _ rfl (.tmp 11) (.tmp 15) rfl (w.heap.size + 1) _ _ [] (vput kn) _ rfl (HQ1.out.num HBN.out).row rfl (Holds.of_own HNN.out) (by have := B1.out; have := B2.out; have := B3.out; simp; omega) (HQ1.out.num HBN.out).size ?_; intro va wa howna hga; have HQ2 := Lib.hid ((HQ1.out.num HBN.out).app howna hga); clear howna hga; clear x0 x1 x2 lh; obtain ⟨x0, x1, x2⟩ := box3 HQ2.out.his; have lh := lt_of HQ2.out.his))
    clear HQ1 HNN HBN
    go_upto_region 5 with (first
      | (go_at_call 32; (with_reducible refine (rfNum_own gn (by omega) _).mono ?_); rintro e wn ⟨vn, rfl, hn, hbn⟩; have HNN := Lib.hid hn; have HBN := Lib.hid hbn; clear hn hbn)
      | (at_builtin; refine wpList_app _ rfl (.tmp 17) (.tmp 21) rfl (w.heap.size + 1) _ _ ([] ++ vput kn) (vput gn) _ rfl (HQ2.out.num HBN.out).row rfl (Holds.of_own HNN.out) (by have := B1.out; have := B2.out; have := B3.out; simp; omega) (HQ2.out.num HBN.out).size ?_; intro va wa howna hga; have HQ3 := Lib.hid ((HQ2.out.num HBN.out).app howna hga); clear howna hga; clear x0 x1 x2 lh; obtain ⟨x0, x1, x2⟩ := box3 HQ3.out.his; have lh := lt_of HQ3.out.his))
    clear HQ2 HNN HBN
    go_upto_region 6 with (first
      | (go_at_call 32; (with_reducible refine (rfNum_own N (by omega) _).mono ?_); rintro e wn ⟨vn, rfl, hn, hbn⟩; have HNN := Lib.hid hn; have HBN := Lib.hid hbn; clear hn hbn)
      | (at_builtin; refine wpList_app _ rfl (.tmp 23) (.tmp 28) rfl (w.heap.size + 1) _ _ ([] ++ vput kn ++ vput gn) (vput N) _ rfl (HQ3.out.num HBN.out).row rfl (Holds.of_own HNN.out) (by have := B1.out; have := B2.out; have := B3.out; simp; omega) (HQ3.out.num HBN.out).size ?_; intro va wa howna hga; have HQ4 := Lib.hid ((HQ3.out.num HBN.out).app howna hga); clear howna hga; clear x0 x1 x2 lh; obtain ⟨x0, x1, x2⟩ := box3 HQ4.out.his; have lh := lt_of HQ4.out.his))
    clear HQ3 HNN HBN
    rw [List.nil_append, HQ0.out] at HQ4
    have q0l : Q0.length ≤ 30 := by rw [← HQ0.out]; have := B1.out; have := B2.out; have := B3.out; simp; omega
    have Q0L := Lib.hid q0l
    clear q0l HQ0 B1 B2 B3
    have hbdef : True := trivial
    go_upto_region 7 with (fail)
    go_wp2
    clear x0 x1 x2 lh
    go_loopw [3, 4, 5] (fun s3 s4 s5 wr => ∃ m : Nat, s5 = .int .i64 ((m : Int) - 1) ∧ m ≤ N ∧ s4 = .int .u64 (aTo R (N - m) : Nat) ∧ Hid (QSt w wr #[.int .i64 (kn : Int), .int .i64 (gn : Int), .slice A N c] (Q0 ++ wTo R (N - m)) s3)) (fun _ _ s5 _ => (intOf s5 + 1).toNat)
    case atStart =>
      refine ⟨N, by go_num, Nat.le_refl _, ?_, Lib.hid ?_⟩
      · rw [Nat.sub_self, (Rc.wTo_zero R).2]
        rfl
      · rw [Nat.sub_self, (Rc.wTo_zero R).1, List.append_nil]
        exact HQ4.out
    case round =>
      rename_i s3
      obtain ⟨m1, rfl, hmN, rfl, HQr⟩ := hrel
      clear HQ4
      by_cases hlt : 0 < m1
      · obtain ⟨m, rfl⟩ : ∃ m, m1 = m + 1 := ⟨m1 - 1, by omega⟩
        obtain ⟨i, hm⟩ : ∃ i, m + 1 + i = N := ⟨N - (m + 1), by omega⟩
        have hmi : N - (m + 1) = i := by omega
        rw [hmi] at HQr ⊢
        have hml : m < ls.length := by rw [HN.out]; omega
        obtain ⟨hiR, hRi⟩ := Rc.rev_at HR.out i m (by rw [HN.out]; exact hm)
        obtain ⟨b, off, rfl, hb, -, hc⟩ := HH.out.at (by omega)
        obtain ⟨Ai, ci, q0, hci, hci2, hLi⟩ := hc m hml
        rw [← lev_lt hml] at q0 hLi hci
        have hfl := congrArg List.length (Rc.flat_split R i hiR)
        obtain ⟨hs1, hs2⟩ := Rc.wTo_succ R i hiR
        obtain ⟨ht1, ht2⟩ := Rc.to_turn HT.out i hiR
        have hw1 := HWL.out i
        rw [hRi] at hfl hs1 hs2 ht2
        obtain ⟨L, hL⟩ : ∃ L, lev ls m = L := ⟨_, rfl⟩
        obtain ⟨rest, hrest⟩ : ∃ r, (R.drop (i + 1)).flatten = r := ⟨_, rfl⟩
        obtain ⟨a0, ha0⟩ : ∃ a, aTo R i = a := ⟨_, rfl⟩
        obtain ⟨mm, hmm⟩ : ∃ m, L.length = m := ⟨_, rfl⟩
        rw [hL] at hfl hs1 hs2 ht2 q0 hLi hci
        rw [hrest] at hfl ht2
        rw [ha0] at hs1 hs2 ht1 ht2
        rw [hmm] at hs1 q0 hLi hci
        simp only [List.length_append, hmm] at hfl
        have hm3 : mm ≤ 20000 := by have := HRF.out; omega
        have hq1 : (Q0 ++ wTo R i).length ≤ 401000 := by have := HRF.out; have := HRL.out; have := HN.out; have := Q0L.out; rw [List.length_append]; omega
        unfold maxLen at hci2
        have hci3 : (mm : Int) ≤ 20000 := by omega
        rw [ha0]
        obtain ⟨x0, x1, x2⟩ := box3 HQr.out.his
        have lh := lt_of HQr.out.his
        have q1 := (HQr.out.bel.cell (p := ⟨b, off + m, none⟩) hb).trans q0
        have lb : b < wr.heap.size := Nat.lt_of_lt_of_le hb HQr.out.bel.size
        have hmN2 : m < N := by omega
        have hiI : ((m + 1 : Nat) : Int) - 1 = (m : Int) := by omega
        rw [hiI]
        have HS1 := Lib.hid hs1
        have HS2 := Lib.hid hs2
        have HT1 := Lib.hid ht1
        have HT2 := Lib.hid ht2
        have HLI := Lib.hid hLi
        have HMM := Lib.hid hmm
        have HQ1 := Lib.hid hq1
        have HM3 := Lib.hid hm3
        have HMI := Lib.hid hm
        have Q0c := Lib.hid q0
        clear hc hml hiR hRi hfl hs1 hs2 ht1 ht2 hw1 hL hrest ha0 hmm hLi hq1 q0 hm hm3 hmi hiI hlt hmN
        rename World => wo
        go_upto_region 11 with (first
          | (go_at_call 32; (with_reducible refine (rfNum_own mm (by have := HM3.out; omega) _).mono ?_); rintro e wn ⟨vn, rfl, hn, hbn⟩; have HNN := Lib.hid hn; have HBN := Lib.hid hbn; clear hn hbn)
          | (at_builtin; refine wpList_app _ rfl (.tmp 38) (.tmp 46) rfl (w.heap.size + 1) _ _ (Q0 ++ wTo R i) (vput mm) _ rfl (HQr.out.num HBN.out).row rfl (Holds.of_own HNN.out) (by have := HQ1.out; have := vput_len10 mm (by have := HM3.out; omega); omega) (HQr.out.num HBN.out).size ?_; intro va wa howna hga; have HQ7 := Lib.hid ((HQr.out.num HBN.out).app howna hga); clear howna hga))
        obtain ⟨Q1, hQ1⟩ : ∃ Q, Q0 ++ wTo R i ++ vput mm = Q := ⟨_, rfl⟩
        have hq1 : Q1.length ≤ 402000 := by rw [← hQ1, List.length_append]; have := HQ1.out; have := vput_len10 mm (by have := HM3.out; omega); omega
        rw [hQ1] at HQ7
        have HS3 := Lib.hid (show Q0 ++ wTo R (i + 1) = Q1 ++ (encSp a0 L).flatMap pairW by rw [HS1.out, ← List.append_assoc, ← List.append_assoc, hQ1])
        have HQ2 := Lib.hid hq1
        clear hQ1 hq1 HQr HS1 HQ1 HNN HBN q1 x0 x1 x2 lh lb
        go_wp2
        go_loopw [3, 4, 6] (fun s3 s4 s6 wr => ∃ j : Nat, s6 = .int .i64 (j : Int) ∧ j ≤ mm ∧ s4 = .int .u64 (endT a0 (L.take j) : Nat) ∧ Hid (QSt w wr #[.int .i64 (kn : Int), .int .i64 (gn : Int), .slice (some ⟨b, off, none⟩) N c] (Q1 ++ (encSp a0 (L.take j)).flatMap pairW) s3)) (fun _ _ s6 _ => mm - (intOf s6).toNat)
        case atStart =>
          refine ⟨0, rfl, Nat.zero_le _, rfl, Lib.hid ?_⟩
          rw [List.take_zero, show (encSp a0 []).flatMap pairW = [] from rfl, List.append_nil]
          exact HQ7.out
        case round =>
          rename_i s3
          obtain ⟨j, rfl, hjm, rfl, HQr⟩ := hrel
          clear HQ7
          obtain ⟨x0, x1, x2⟩ := box3 HQr.out.his
          have lh := lt_of HQr.out.his
          have q1 := (HQr.out.bel.cell (p := ⟨b, off + m, none⟩) hb).trans Q0c.out
          have lb : b < wr.heap.size := Nat.lt_of_lt_of_le hb HQr.out.bel.size
          by_cases hlt2 : j < mm
          · have hjl : j < L.length := by rw [HMM.out]; exact hlt2
            obtain ⟨b2, off2, rfl, hb2, -, hc2⟩ := sp_at (HLI.out.below HQr.out.bel) (by omega)
            obtain ⟨e0, e1⟩ := hc2 j hjl
            obtain ⟨p1, p2⟩ := Rc.pTo_succ L a0 j hjl
            obtain ⟨t1, t2, t3⟩ := Rc.pTo_at HT2.out j hjl
            have hln := Rc.pTo_len HT1.out HT2.out j
            obtain ⟨aj, haj⟩ : ∃ a, endT a0 (L.take j) = a := ⟨_, rfl⟩
            obtain ⟨y, hy⟩ : ∃ y, L[j] = y := ⟨_, rfl⟩
            obtain ⟨y0, y1⟩ := y
            rw [hy] at e0 e1 p1 p2 t1 t2 t3
            rw [haj] at p1 t1 ⊢
            dsimp only at e0 e1 p1 p2 t1 t2 t3
            unfold Rc.maxT at t3
            obtain ⟨d0, hd0⟩ : ∃ d, y0 - aj = d := ⟨_, rfl⟩
            obtain ⟨d1, hd1⟩ : ∃ d, y1 - y0 = d := ⟨_, rfl⟩
            rw [hd0] at p1
            rw [hd1] at p1
            have hw0 : IntKind.u64.wrap ((y0 : Int) - aj) = (d0 : Int) := by rw [IntKind.wrap_u64]; omega
            have hw1 : IntKind.u64.wrap ((y1 : Int) - y0) = (d1 : Int) := by rw [IntKind.wrap_u64]; omega
            obtain ⟨Q2, hQ2⟩ : ∃ Q, Q1 ++ (encSp a0 (L.take j)).flatMap pairW = Q := ⟨_, rfl⟩
            have hq2 : Q2.length ≤ 810000 := by rw [← hQ2, List.length_append]; have := HQ2.out; have := HM3.out; rw [HMM.out] at hln; omega
            have HS4 := Lib.hid (show Q1 ++ (encSp a0 (L.take (j + 1))).flatMap pairW = Q2 ++ vput d0 ++ vput d1 by rw [p1, ← hQ2]; simp only [List.append_assoc])
            rw [hQ2] at HQr
            have lb2 : b2 < wr.heap.size := Nat.lt_of_lt_of_le hb2 HQr.out.bel.size
            have hd0l : d0 < 18446744073709551616 := by omega
            have hd1l : d1 < 18446744073709551616 := by omega
            have hv0 := vput_len10 d0 (by omega)
            have hv1 := vput_len10 d1 (by omega)
            have HHQ := Lib.hid hq2
            have HP2 := Lib.hid p2
            have HV0 := Lib.hid hv0
            have HV1 := Lib.hid hv1
            have HD0 := Lib.hid hd0l
            have HD1 := Lib.hid hd1l
            have HJM := Lib.hid hjm
            clear hc2 p1 p2 t1 t2 t3 hln hy hq2 hQ2 hd0 hd1 hv0 hv1 hd0l hd1l haj hjl
            have hqa := HQr.out.alloc (.cells #[.int .u64 (y0 : Int), .int .u64 (y1 : Int)] 73)
            have hka := heap_alloc_new wr (.cells #[.int .u64 (y0 : Int), .int .u64 (y1 : Int)] 73)
            have HQA := Lib.hid hqa
            have HKA := Lib.hid hka
            clear hqa hka
            go_upto_region 15 with (fail)
            generalize wr.alloc (.cells #[.int .u64 (y0 : Int), .int .u64 (y1 : Int)] 73) = Wa at *
            obtain ⟨pb, hpb⟩ : ∃ p, wr.heap.size = p := ⟨_, rfl⟩
            rw [hpb] at HKA ⊢
            have hpw : w.heap.size + 1 ≤ pb := by rw [← hpb]; exact HQr.out.size
            obtain ⟨g0, g1, -, -⟩ := box2 HKA.out
            have gl := lt_of HKA.out
            have HPW := Lib.hid hpw
            clear hpb hpw e0 e1 lb2 x0 x1 x2 lh q1 lb
            go_upto_region 16 with (first
              | (go_at_call 32; (with_reducible refine (rfNum_own d0 HD0.out _).mono ?_); rintro e wn ⟨vn, rfl, hn, hbn⟩; have HNN := Lib.hid hn; have HBN := Lib.hid hbn; clear hn hbn)
              | (at_builtin; refine wpList_app _ rfl (.tmp 66) (.tmp 71) rfl (w.heap.size + 1) _ _ Q2 (vput d0) _ rfl (HQA.out.num HBN.out).row rfl (Holds.of_own HNN.out) (by have := HHQ.out; have := HV0.out; omega) (HQA.out.num HBN.out).size ?_; intro va wa howna hga; have HQB := Lib.hid ((HQA.out.num HBN.out).app howna hga); have hk2 := (hga.block pb (Nat.lt_of_lt_of_le (lt_of HKA.out) HBN.out.size) (row_ne HQA.out.row HKA.out (by decide))).trans ((HBN.out.block pb (lt_of HKA.out)).trans HKA.out); have HKB := Lib.hid hk2; clear howna hga hk2 g0 g1 gl; obtain ⟨g0, g1, -, -⟩ := box2 HKB.out; have gl := lt_of HKB.out))
            clear HQA HKA HNN HBN
            go_upto_region 17 with (first
              | (go_at_call 32; (with_reducible refine (rfNum_own d1 HD1.out _).mono ?_); rintro e wn ⟨vn, rfl, hn, hbn⟩; have HNN := Lib.hid hn; have HBN := Lib.hid hbn; clear hn hbn)
              | (at_builtin; refine wpList_app _ rfl (.tmp 73) (.tmp 79) rfl (w.heap.size + 1) _ _ (Q2 ++ vput d0) (vput d1) _ rfl (HQB.out.num HBN.out).row rfl (Holds.of_own HNN.out) (by have := HHQ.out; have := HV0.out; have := HV1.out; rw [List.length_append]; omega) (HQB.out.num HBN.out).size ?_; intro va wa howna hga; have HQC := Lib.hid ((HQB.out.num HBN.out).app howna hga); have hk2 := (hga.block pb (Nat.lt_of_lt_of_le (lt_of HKB.out) HBN.out.size) (row_ne HQB.out.row HKB.out (by decide))).trans ((HBN.out.block pb (lt_of HKB.out)).trans HKB.out); have HKA := Lib.hid hk2; clear howna hga hk2 g0 g1 gl; obtain ⟨g0, g1, -, -⟩ := box2 HKA.out; have gl := lt_of HKA.out))
            clear HQB HKB HNN HBN
            go_wp2
            refine ⟨⟨j + 1, by go_num, hlt2, by rw [HP2.out], Lib.hid ?_⟩, by simp [intOf]; omega⟩
            rw [HS4.out]
            exact HQC.out
          · have e : j = mm := by omega
            subst e
            have htl : L.take j = L := by rw [← HMM.out, List.take_length]
            rw [htl] at HQr ⊢
            rw [← HS3.out] at HQr
            rw [← HS2.out]
            have hmi : N - m = i + 1 := by have := HMI.out; omega
            obtain ⟨ai, hai⟩ : ∃ a, aTo R (i + 1) = a := ⟨_, rfl⟩
            rw [hai]
            have HAI := Lib.hid hai
            have HNI := Lib.hid hmi
            clear htl hlt2 hai hmi
            go_wp2
            refine ⟨⟨m, by go_num, by omega, by rw [HNI.out, HAI.out], Lib.hid ?_⟩, by simp [intOf] <;> omega⟩
            rw [HNI.out]
            exact HQr.out
      · have e : m1 = 0 := by omega
        subst e
        rw [Nat.sub_zero] at HQr ⊢
        rw [show ((0 : Nat) : Int) - 1 = -1 from rfl]
        have hbl := HQr.out.bel
        have HO := Lib.hid (own_lower HQr.out.row (show w.heap.size ≤ w.heap.size + 1 by omega))
        have HBL := Lib.hid hbl
        clear hlt hbl HQr
        go_wp2
        go_ret
        exact ⟨_, rfl, HO.out, HBL.out⟩
  · have hput : putM (k, g, ls) = [] := by
      unfold putM
      rw [if_neg hc]
    rw [hput]
    have hL0 := h.grow hb0
    obtain ⟨cc, hcc⟩ : ∃ c, chk k g ls = c := ⟨_, rfl⟩
    rw [hcc] at hch hc
    have hne : ((cc : Int) != 0) = true := by simpa using hc
    have HW0 := Lib.hid hW0
    have HL0 := Lib.hid hL0
    have HCH := Lib.hid hch
    have HB0 := Lib.hid hb0
    have HZ0 := Lib.hid hz0
    obtain ⟨x0, x1, x2⟩ := box3 hp0
    have lh := lt_of hp0
    clear h hW0 hL0 hch hb0 hz0 hp0 hput hcc hc hlv hcnt
    go_enter Try.func12, Try.ntmps12
    go_upto_region 1 with (fail)
    rw [HW0.out]
    clear HW0
    go_wp2_with (go_at_call 23; (with_reducible refine (HCH.out _ HL0.out).mono ?_); rintro e w1 ⟨rfl, hb1⟩)
    go_ret
    exact ⟨_, rfl, World.ownsRow_nil _ _ _ _, HB0.out.trans (hb1.mono (by rw [HZ0.out]; omega))⟩
end Go.Proofs.Ytmdknedngiggdaa
end
section
/- The contract of record.Put. -/
namespace Go.Proofs.Ytmdknedngiggdaa
open Go.RowKit Go.Shelf Go.Proofs.Vm Go.Proofs.Rw Go.Proofs.Lh
open Go.Proofs.Rc (putM rawW ofM encLv encSp pairW levelW endT wTo aTo maxT)

set_option maxRecDepth 100000 in
set_option maxHeartbeats 4000000 in
theorem rput_any (k g : Int) (ls : Lv) (hl : ls.length ≤ 1000000) (hlv : ∀ i, (lev ls i).length ≤ 1000000) (hcnt : ls.flatten.length ≤ 20000) (w : World) (A : Option Addr) (c : Nat) (h : Reads w w.heap.size (.slice A ls.length c) ls) :
    Calls Try.prog 10 #[hv k g (.slice A ls.length c)] w fun e w' => ∃ v, e = .returned v ∧ w'.ownsRow w.heap.size 5 1 v (putM (k, g, ls)).length ((putM (k, g, ls)).map (Value.int .u8)) ∧ Below w.heap.size w w' := by
  obtain ⟨W0, hW0⟩ : ∃ W, w.alloc (.cells #[.int .i64 k, .int .i64 g, .slice A ls.length c] 30) = W := ⟨_, rfl⟩
  have hb0 : Below w.heap.size w W0 := by rw [← hW0]; exact (Below.refl _ w).alloc (Nat.le_refl _) _
  have hp0 : W0.heap[w.heap.size]? = some (.cells #[.int .i64 k, .int .i64 g, .slice A ls.length c] 30) := by rw [← hW0]; exact heap_alloc_new w _
  have hz0 : W0.heap.size = w.heap.size + 1 := by rw [← hW0]; simp
  have hch := fun W hL => hist_any k g ls hl hlv W A c hL
  by_cases hc : chk k g ls = 0
  · obtain ⟨⟨k2, k1⟩, ⟨g0, g1⟩, hg⟩ := Rc.chk_zero hc
    obtain ⟨kn, rfl⟩ : ∃ n : Nat, k = (n : Int) := ⟨k.toNat, by omega⟩
    obtain ⟨gn, rfl⟩ : ∃ n : Nat, g = (n : Int) := ⟨g.toNat, by omega⟩
    obtain ⟨-, q52, hT⟩ := Rc.good_parts hg
    have hput : putM ((kn : Int), (gn : Int), ls) = vput kn ++ vput gn ++ vput ls.length ++ wTo ls.reverse ls.length := by
      rw [Rc.wTo_all]
      unfold putM
      rw [if_pos hc]
      unfold ofM
      simp only [Int.toNat_natCast]
    rw [hput]
    rw [hc] at hch
    obtain ⟨R, hR⟩ : ∃ R, ls.reverse = R := ⟨_, rfl⟩
    rw [hR] at hT ⊢
    have hRl : R.length = ls.length := by rw [← hR, List.length_reverse]
    have hRf : R.flatten.length ≤ 20000 := by rw [← hR]; simpa using hcnt
    have hRb : ∀ l ∈ R, l.length ≤ 1000000 := by
      intro l hl'
      rw [← hR, List.mem_reverse] at hl'
      obtain ⟨i, hi, rfl⟩ := List.getElem_of_mem hl'
      rw [← lev_lt hi]
      exact hlv i
    have hwl := Rc.wTo_len hT hRb
    obtain ⟨N, hN⟩ : ∃ N, ls.length = N := ⟨_, rfl⟩
    have b1 := vput_len10 kn (by omega)
    have b2 := vput_len10 gn (by omega)
    have b3 := vput_len10 ls.length (by omega)
    have hL0 := h.grow hb0
    rw [hN] at q52 hch b3 hl hL0 hW0 hp0 h ⊢
    obtain ⟨Q0, hQ0⟩ : ∃ Q, vput kn ++ vput gn ++ vput N = Q := ⟨_, rfl⟩
    rw [hQ0]
    have HQ0 := Lib.hid hQ0
    have HN := Lib.hid hN
    have HR := Lib.hid hR
    have HRL := Lib.hid hRl
    have HRF := Lib.hid hRf
    have HT := Lib.hid hT
    have HWL := Lib.hid hwl
    have HW0 := Lib.hid hW0
    have HB0 := Lib.hid hb0
    have HP0 := Lib.hid hp0
    have HL0 := Lib.hid hL0
    have HLV := Lib.hid hlv
    have HH := Lib.hid h
    have HCH := Lib.hid hch
    have B1 := Lib.hid b1
    have B2 := Lib.hid b2
    have B3 := Lib.hid b3
    have HZ0 := Lib.hid hz0
    obtain ⟨x0, x1, x2⟩ := box3 hp0
    have lh := lt_of hp0
    have kk : (kn : Int) ≤ 1024 := k1
    have gg : (gn : Int) ≤ 4 := g1
    have nn : (N : Int) ≤ 52 := by omega
    clear h hQ0 hch hput hc hg hcnt hR hRl hRf hRb hT hwl hN b1 b2 b3 hL0 hW0 hb0 hp0 hlv hl k1 k2 g0 g1 hz0
    go_enter Try.func10, Try.ntmps10
    go_upto_region 1 with (fail)
    rw [HW0.out]
    clear HW0
    go_upto_region 3 with (go_at_call 27; (with_reducible refine (HCH.out _ HL0.out).mono ?_); rintro e w1 ⟨rfl, hb1⟩)
    have hb01 := HB0.out.trans (hb1.mono (by rw [HZ0.out]; omega))
    have HL1 := Lib.hid (HL0.out.grow hb1)
    have hps := PSt.start hb01 ((hb1.block _ (lt_of HP0.out)).trans HP0.out)
    obtain ⟨bx, hbx⟩ : ∃ b, w1.heap.size = b := ⟨_, rfl⟩
    obtain ⟨W2, hW2⟩ : ∃ W, w1.alloc (.cells #[.slice none 0 0] 28) = W := ⟨_, rfl⟩
    have hb12 : Below w1.heap.size w1 W2 := by rw [← hW2]; exact (Below.refl _ w1).alloc (Nat.le_refl _) _
    have HL2 := Lib.hid (HL1.out.grow hb12)
    rw [hW2] at hps
    rw [hbx] at hps
    have HPS := Lib.hid hps
    have HW2 := Lib.hid hW2
    clear hb01 hb12 HL1 hps hW2 hb1 HL0 HP0 HCH HB0 HZ0
    go_upto_region 4 with (fail)
    rw [HW2.out]
    clear HW2 hbx x0 x1 x2 lh
    obtain ⟨x0, x1, x2⟩ := box3 HPS.out.his
    have lh := lt_of HPS.out.his
    go_upto_region 6 with (go_at_call 28; (with_reducible refine (HPS.out.put kn (by omega) (by simp)).mono ?_); rintro e w3 ⟨⟨r3, rfl⟩, hp3, -⟩; have HP3 := Lib.hid hp3; clear hp3 x0 x1 x2 lh; obtain ⟨x0, x1, x2⟩ := box3 HP3.out.his; have lh := lt_of HP3.out.his)
    clear HPS
    go_upto_region 7 with (go_at_call 28; (with_reducible refine (HP3.out.put gn (by omega) (by have := B1.out; simp; omega)).mono ?_); rintro e w4 ⟨⟨r4, rfl⟩, hp4, -⟩; have HP4 := Lib.hid hp4; clear hp4 x0 x1 x2 lh; obtain ⟨x0, x1, x2⟩ := box3 HP4.out.his; have lh := lt_of HP4.out.his)
    clear HP3
    go_upto_region 9 with (go_at_call 28; (with_reducible refine (HP4.out.put N (by omega) (by have := B1.out; have := B2.out; simp; omega)).mono ?_); rintro e w5 ⟨⟨r5, rfl⟩, hp5, -⟩; have HP5 := Lib.hid hp5; clear hp5 x0 x1 x2 lh; obtain ⟨x0, x1, x2⟩ := box3 HP5.out.his; have lh := lt_of HP5.out.his)
    clear HP4
    go_upto_region 10 with (go_at_call 30; (with_reducible refine (steps_any _).mono ?_); rintro e w6 ⟨rfl, rfl⟩)
    obtain ⟨W6, hW6⟩ : ∃ W, w5.alloc (.cells #[.int .u64 0] 61) = W := ⟨_, rfl⟩
    have hp6 := HP5.out.alloc (.cells #[.int .u64 0] 61)
    rw [hW6] at hp6
    have hx6 : Boxed W6 w5.heap.size 61 (.int .u64 0) := by rw [← hW6]; exact Boxed.new _ _ _
    have hpx : bx + 1 ≤ w5.heap.size := by
      obtain ⟨v, hv, -⟩ := HP5.out.row
      exact hv.lt
    rw [hW6]
    obtain ⟨px, hpxe⟩ : ∃ p, w5.heap.size = p := ⟨_, rfl⟩
    rw [hpxe] at hx6 hpx ⊢
    rw [List.nil_append] at hp6
    rw [HQ0.out] at hp6
    have q0l : Q0.length ≤ 30 := by rw [← HQ0.out]; have := B1.out; have := B2.out; have := B3.out; simp; omega
    have Q0L := Lib.hid q0l
    have HP6 := Lib.hid hp6
    have HX6 := Lib.hid hx6
    have HPX := Lib.hid hpx
    clear hW6 hp6 hx6 hpx hpxe q0l B1 B2 B3 HP5 HL2 x0 x1 x2 lh
    go_wp2
    go_loopw [34] (fun s34 wr => ∃ i : Nat, s34 = .int .i64 (i : Int) ∧ i ≤ N ∧ Hid (PSt w wr bx #[.int .i64 (kn : Int), .int .i64 (gn : Int), .slice A N c] (Q0 ++ wTo R i)) ∧ Hid (Boxed wr px 61 (.int .u64 (aTo R i : Nat)))) (fun s34 _ => N - (intOf s34).toNat)
    case atStart =>
      refine ⟨0, rfl, Nat.zero_le _, Lib.hid ?_, Lib.hid ?_⟩
      · rw [(Rc.wTo_zero R).1, List.append_nil]
        exact HP6.out
      · rw [(Rc.wTo_zero R).2]
        exact HX6.out
    case round =>
      obtain ⟨i, rfl, hiN, HPr, HXr⟩ := hrel
      clear HP6 HX6
      by_cases hlt : i < N
      · obtain ⟨m, hm⟩ : ∃ m, m + 1 + i = N := ⟨N - 1 - i, by omega⟩
        have hml : m < ls.length := by rw [HN.out]; omega
        obtain ⟨hiR, hRi⟩ := Rc.rev_at HR.out i m (by rw [HN.out]; exact hm)
        obtain ⟨b, off, rfl, hb, -, hc⟩ := HH.out.at (by omega)
        obtain ⟨Ai, ci, q0, hci, hci2, hLi⟩ := hc m hml
        rw [← lev_lt hml] at q0 hLi hci
        have hfl := congrArg List.length (Rc.flat_split R i hiR)
        obtain ⟨hs1, hs2⟩ := Rc.wTo_succ R i hiR
        obtain ⟨ht1, ht2⟩ := Rc.to_turn HT.out i hiR
        have hw1 := HWL.out i
        rw [hRi] at hfl hs1 hs2 ht2
        obtain ⟨L, hL⟩ : ∃ L, lev ls m = L := ⟨_, rfl⟩
        obtain ⟨rest, hrest⟩ : ∃ r, (R.drop (i + 1)).flatten = r := ⟨_, rfl⟩
        obtain ⟨a0, ha0⟩ : ∃ a, aTo R i = a := ⟨_, rfl⟩
        obtain ⟨mm, hmm⟩ : ∃ m, L.length = m := ⟨_, rfl⟩
        rw [hL] at hfl hs1 hs2 ht2 q0 hLi hci
        rw [hrest] at hfl ht2
        rw [ha0] at hs1 hs2 ht1 ht2 HXr
        rw [hmm] at hs1 q0 hLi hci
        simp only [List.length_append, hmm] at hfl
        have hm3 : mm ≤ 20000 := by have := HRF.out; omega
        have hq1 : (Q0 ++ wTo R i).length ≤ 401000 := by have := HRF.out; have := HRL.out; have := HN.out; have := Q0L.out; rw [List.length_append]; omega
        unfold maxLen at hci2
        have hci3 : (mm : Int) ≤ 20000 := by omega
        obtain ⟨x0, x1, x2⟩ := box3 HPr.out.his
        have lh := lt_of HPr.out.his
        have q1 := (HPr.out.bel.cell (p := ⟨b, off + m, none⟩) hb).trans q0
        have lb : b < wr.heap.size := Nat.lt_of_lt_of_le hb HPr.out.bel.size
        have FL := Lib.hid (fun W => fromLast_any N i m hm (by omega) W)
        have hmN : m < N := by omega
        have HS1 := Lib.hid hs1
        have HS2 := Lib.hid hs2
        have HT1 := Lib.hid ht1
        have HT2 := Lib.hid ht2
        have HLI := Lib.hid hLi
        have HMM := Lib.hid hmm
        have HQ1 := Lib.hid hq1
        have HM3 := Lib.hid hm3
        clear hc hml hiR hRi hfl hs1 hs2 ht1 ht2 hw1 hL hrest ha0 hmm hLi hq1 q0 hm hm3
        go_upto_region 13 with (fail)
        go_quiet ((go_at_call 31; exact Calls.quiet_of_same ((FL.out _).mono fun _ _ ⟨h1, h2⟩ => ⟨h1, h2.symm⟩)))
        clear q1 lb FL x0 x1 x2 lh
        have hpd := HPr.out.drewN nq
        have hxd : Boxed (wr.drewN nq) px 61 (.int .u64 (a0 : Nat)) := HXr.out
        generalize wr.drewN nq = wy at *
        have HPd := Lib.hid hpd
        have HXd := Lib.hid hxd
        clear hpd hxd HPr HXr
        go_upto_region 15 with (go_at_call 28; (with_reducible refine (HPd.out.put mm (by have := HM3.out; omega) (by have := HQ1.out; omega)).mono ?_); rintro e w7 ⟨⟨r7, rfl⟩, hp7, hk7⟩; have HP7 := Lib.hid hp7; have HX7 := Lib.hid (show Boxed w7 px 61 _ from hk7 px _ _ HPX.out (by decide) HXd.out); clear hp7 hk7)
        obtain ⟨Q1, hQ1⟩ : ∃ Q, Q0 ++ wTo R i ++ vput mm = Q := ⟨_, rfl⟩
        have hq1 : Q1.length ≤ 402000 := by rw [← hQ1, List.length_append]; have := HQ1.out; have := vput_len10 mm (by have := HM3.out; omega); omega
        rw [hQ1] at HP7
        have HS3 := Lib.hid (show Q0 ++ wTo R (i + 1) = Q1 ++ (encSp a0 L).flatMap pairW by rw [HS1.out, ← List.append_assoc, ← List.append_assoc, hQ1])
        have HQ2 := Lib.hid hq1
        clear hQ1 hq1 HPd HXd HS1 HQ1
        go_wp2
        go_loopw [51] (fun s51 wr => ∃ j : Nat, s51 = .int .i64 (j : Int) ∧ j ≤ mm ∧ Hid (PSt w wr bx #[.int .i64 (kn : Int), .int .i64 (gn : Int), .slice (some ⟨b, off, none⟩) N c] (Q1 ++ (encSp a0 (L.take j)).flatMap pairW)) ∧ Hid (Boxed wr px 61 (.int .u64 (endT a0 (L.take j) : Nat)))) (fun s51 _ => mm - (intOf s51).toNat)
        case atStart =>
          refine ⟨0, rfl, Nat.zero_le _, Lib.hid ?_, Lib.hid ?_⟩
          · rw [List.take_zero, show (encSp a0 []).flatMap pairW = [] from rfl, List.append_nil]
            exact HP7.out
          · exact HX7.out
        case round =>
          obtain ⟨j, rfl, hjm, HPr, HXr⟩ := hrel
          clear HP7 HX7
          by_cases hlt2 : j < mm
          · have hjl : j < L.length := by rw [HMM.out]; exact hlt2
            obtain ⟨b2, off2, rfl, hb2, -, hc2⟩ := sp_at (HLI.out.below HPr.out.bel) (by omega)
            obtain ⟨e0, e1⟩ := hc2 j hjl
            obtain ⟨p1, p2⟩ := Rc.pTo_succ L a0 j hjl
            obtain ⟨t1, t2, t3⟩ := Rc.pTo_at HT2.out j hjl
            have hln := Rc.pTo_len HT1.out HT2.out j
            obtain ⟨aj, haj⟩ : ∃ a, endT a0 (L.take j) = a := ⟨_, rfl⟩
            obtain ⟨y, hy⟩ : ∃ y, L[j] = y := ⟨_, rfl⟩
            obtain ⟨y0, y1⟩ := y
            rw [hy] at e0 e1 p1 p2 t1 t2 t3
            rw [haj] at p1 t1 HXr
            dsimp only at e0 e1 p1 p2 t1 t2 t3
            unfold Rc.maxT at t3
            obtain ⟨d0, hd0⟩ : ∃ d, y0 - aj = d := ⟨_, rfl⟩
            obtain ⟨d1, hd1⟩ : ∃ d, y1 - y0 = d := ⟨_, rfl⟩
            have hm0 := fun W => more_any aj y0 t1 (by omega) px W
            have hm1 := fun W => more_any y0 y1 t2 (by omega) px W
            rw [hd0] at hm0 p1
            rw [hd1] at hm1 p1
            obtain ⟨Q2, hQ2⟩ : ∃ Q, Q1 ++ (encSp a0 (L.take j)).flatMap pairW = Q := ⟨_, rfl⟩
            have hq2 : Q2.length ≤ 810000 := by rw [← hQ2, List.length_append]; have := HQ2.out; have := HM3.out; rw [HMM.out] at hln; omega
            have HS4 := Lib.hid (show Q1 ++ (encSp a0 (L.take (j + 1))).flatMap pairW = Q2 ++ vput d0 ++ vput d1 by rw [p1, ← hQ2]; simp only [List.append_assoc])
            rw [hQ2] at HPr
            have lb2 : b2 < wr.heap.size := Nat.lt_of_lt_of_le hb2 HPr.out.bel.size
            have hd0l : d0 < 18446744073709551616 := by omega
            have hd1l : d1 < 18446744073709551616 := by omega
            have hv0 := vput_len10 d0 (by omega)
            have HHQ := Lib.hid hq2
            have HP2 := Lib.hid p2
            have HM0 := Lib.hid hm0
            have HM1 := Lib.hid hm1
            have HV0 := Lib.hid hv0
            have HJM := Lib.hid hjm
            have HD0 := Lib.hid hd0l
            have HD1 := Lib.hid hd1l
            have HAJ := Lib.hid haj
            have HT1' := Lib.hid t1
            have HT2' := Lib.hid t2
            clear hc2 p1 p2 t1 t2 t3 hln hy hm0 hm1 hq2 hQ2 hd0 hd1 hv0 hd0l hd1l haj hjl
            go_upto_region 18 with (fail)
            have hpb := HPr.out.alloc (.cells #[.int .u64 (y0 : Int), .int .u64 (y1 : Int)] 73)
            have hxb := HXr.out.alloc (.cells #[.int .u64 (y0 : Int), .int .u64 (y1 : Int)] 73)
            have hkb := heap_alloc_new wr (.cells #[.int .u64 (y0 : Int), .int .u64 (y1 : Int)] 73)
            have hbp : bx + 1 ≤ wr.heap.size := by
              obtain ⟨v, hv, -⟩ := HPr.out.row
              exact hv.lt
            have hne : wr.heap.size ≠ px := Nat.ne_of_gt HXr.out.lt
            generalize wr.alloc (.cells #[.int .u64 (y0 : Int), .int .u64 (y1 : Int)] 73) = Wb at *
            obtain ⟨pb, hpbe⟩ : ∃ p, wr.heap.size = p := ⟨_, rfl⟩
            rw [hpbe] at hkb hbp hne ⊢
            obtain ⟨g0, g1, -, -⟩ := box2 hkb
            have gl := lt_of hkb
            have HPb := Lib.hid hpb
            have HXb := Lib.hid hxb
            have HKb := Lib.hid hkb
            have HBP := Lib.hid hbp
            have HNE := Lib.hid hne
            clear hpb hxb hkb hbp hne hpbe HPr HXr e0 e1 lb2
            go_upto_region 19 with (first
              | (go_at_call 52; (with_reducible refine (HM0.out _ HXb.out).mono ?_); rintro e wm ⟨rfl, hwm⟩; have hpm := HPb.out.more px HPX.out _ (y0 : Int) HXb.out; have hkm := (Below.heap_setCell Wb ⟨px, 0, none⟩ (.int .u64 (y0 : Int)) pb HNE.out).trans HKb.out; rw [← hwm] at hpm hkm; have HPm := Lib.hid hpm.1; have HXm := Lib.hid hpm.2; have HKm := Lib.hid hkm; clear hpm hkm hwm g0 g1 gl)
              | (go_at_call 28; (with_reducible refine (HPm.out.put d0 HD0.out (by have := HHQ.out; omega)).mono ?_); rintro e wn ⟨⟨rn, rfl⟩, hpn, hkn⟩; have hk := hkn pb _ _ HBP.out (by decide) HKm.out; have HXn := Lib.hid (show Boxed wn px 61 _ from hkn px _ _ HPX.out (by decide) HXm.out); have HPn := Lib.hid hpn; have HKn := Lib.hid hk; obtain ⟨g0, g1, -, -⟩ := box2 hk; have gl := lt_of hk; clear hpn hkn hk))
            clear HPb HXb HKb HPm HXm HKm
            go_upto_region 20 with (first
              | (go_at_call 52; (with_reducible refine (HM1.out _ HXn.out).mono ?_); rintro e wm ⟨rfl, hwm⟩; have hpm := HPn.out.more px HPX.out _ (y1 : Int) HXn.out; rw [← hwm] at hpm; have HPm := Lib.hid hpm.1; have HXm := Lib.hid hpm.2; clear hpm hwm g0 g1 gl)
              | (go_at_call 28; (with_reducible refine (HPm.out.put d1 HD1.out (by have := HHQ.out; have := HV0.out; rw [List.length_append]; omega)).mono ?_); rintro e wz ⟨⟨rz, rfl⟩, hpn, hkn⟩; have HXz := Lib.hid (show Boxed wz px 61 _ from hkn px _ _ HPX.out (by decide) HXm.out); have HPz := Lib.hid hpn; clear hpn hkn))
            go_wp2
            refine ⟨⟨j + 1, by go_num, hlt2, Lib.hid ?_, Lib.hid ?_⟩, by simp [intOf]; omega⟩
            · rw [HS4.out]
              exact HPz.out
            · rw [HP2.out]
              exact HXz.out
          · have e : j = mm := by omega
            subst e
            have htl : L.take j = L := by rw [← HMM.out, List.take_length]
            rw [htl] at HPr HXr
            rw [← HS3.out] at HPr
            rw [← HS2.out] at HXr
            clear htl hlt2
            go_wp2
            refine ⟨⟨i + 1, by go_num, hlt, HPr, HXr⟩, by simp [intOf] <;> omega⟩
      · have e : i = N := by omega
        subst e
        obtain ⟨v, hv, ho⟩ := HPr.out.row
        have hvc := hv.cell
        have hbl := HPr.out.bel
        have hbx := HPr.out.lt
        have HO := Lib.hid (own_lower ho (show w.heap.size ≤ bx + 1 by omega))
        have HBL := Lib.hid hbl
        have hvl := hv.lt
        clear hlt hv ho hbl hbx HPr HXr
        go_wp2
        go_ret
        exact ⟨v, rfl, HO.out, HBL.out⟩
  · have hput : putM (k, g, ls) = [] := by
      unfold putM
      rw [if_neg hc]
    rw [hput]
    have hL0 := h.grow hb0
    obtain ⟨cc, hcc⟩ : ∃ c, chk k g ls = c := ⟨_, rfl⟩
    rw [hcc] at hch hc
    have hne : ((cc : Int) != 0) = true := by simpa using hc
    have HW0 := Lib.hid hW0
    have HL0 := Lib.hid hL0
    have HCH := Lib.hid hch
    have HB0 := Lib.hid hb0
    have HZ0 := Lib.hid hz0
    obtain ⟨x0, x1, x2⟩ := box3 hp0
    have lh := lt_of hp0
    clear h hW0 hL0 hch hb0 hz0 hp0 hput hcc hc hlv hcnt
    go_enter Try.func10, Try.ntmps10
    go_upto_region 1 with (fail)
    rw [HW0.out]
    clear HW0
    go_wp2_with (go_at_call 27; (with_reducible refine (HCH.out _ HL0.out).mono ?_); rintro e w1 ⟨rfl, hb1⟩)
    go_ret
    exact ⟨_, rfl, World.ownsRow_nil _ _ _ _, HB0.out.trans (hb1.mono (by rw [HZ0.out]; omega))⟩
end Go.Proofs.Ytmdknedngiggdaa
end
section
/- The law's own first look: a text there and back. -/
namespace Go.Proofs.Ytmdknedngiggdaa
open Go.RowKit Go.Proofs.Vm Go.Proofs.Rf

theorem ct1 : vtext [97, 98] = [2, 97, 98] := by
  unfold vtext
  rw [show ([97, 98] : List Int).length = 2 from rfl, vput_lt (by omega)]; rfl
theorem ct2 : rText [2, 97, 98] 0 2 = ([], 0, [97, 98]) := by decide
theorem ct3 : vfix 258 = [0, 0, 0, 0, 0, 0, 1, 2] := by decide
theorem ct4 : vput 300 = [172, 2] := by rw [vput_ge (by omega), vput_lt (by omega)]; rfl

/-- As a string, in any world that has grown. -/
theorem own_str {w : World} {base : Nat} {v : Value} {bs : List Int} (h : w.ownsRow base 5 1 v bs.length (bs.map (Value.int .u8))) (hb : ∀ x ∈ bs, 0 ≤ x ∧ x ≤ 255) : (convert 28 9 v).run Try.prog w = .ok (.string (strOf bs)) w := run_str (Holds.of_own h) hb

theorem own_ne {v : Value} {lo hi rb : Nat} (h : ∀ k, v.ownBlock = some k → lo ≤ k ∧ k < hi) (hrb : hi ≤ rb) : v.ownBlock = none ∨ v.ownBlock ≠ some rb := by
  refine .inr fun e => ?_
  have := h rb e
  omega

theorem lit_beq (bs : List Int) (cs : List UInt8) (h : (bs.map fun x => UInt8.ofNat x.toNat) = cs) : ((strOf bs).toList == cs) = true := by
  subst h
  rw [ByteArray.toList_eq]
  simp [strOf]

end Go.Proofs.Ytmdknedngiggdaa
end
section
/- skylightlaw11.awake: one unit. -/
namespace Go.Proofs.Lh
open Go.Proofs.Lm (Sp)
theorem oneF : addW 2 [] 5 1 = [[(5, 5)]] := by
  unfold addW addL
  rw [newL_ne _ _ (by simp), show wentL (List.replicate 1 (5, 5)) (rm 2 0) = [] by decide, newL_nil]
  decide
theorem playF : play 2 [(5, 1)] 1 = (5, [[(5, 5)]]) := by
  unfold play
  simp only [List.take_succ_cons, List.take_zero, List.foldl_cons, List.foldl_nil]
  unfold stepP
  rw [if_pos (by decide), show (0 : Nat) + (5, 1).1 % 1000 = 5 from rfl, oneF]
end Go.Proofs.Lh
namespace Go.Proofs.Rc
open Go.Proofs.Vm Go.Proofs.Lh
def mF : Hm := (2, 0, [[(5, 5)]])
def bF : List Int := [2, 0, 1, 1, 5, 0]
theorem chkF : chk mF.1 mF.2.1 mF.2.2 = 0 := by decide
theorem putF : putM mF = bF := by
  unfold putM
  rw [if_pos chkF]
  have e : ofM mF = (2, 0, [[(5, 0)]]) := by decide
  rw [e]
  unfold rawW
  simp [levelW, pairW, vput_lt, bF]
theorem oneF1 : oneM bF = (mF, 0) := by rw [← putF]; exact one_put chkF
/-- A level without a bucket. -/
theorem oneF2 : oneM [2, 0, 1, 0] = ((0, 0, []), 2) := by
  have hp : rawP (2, 0, [[]]) := ⟨by decide, by decide, by decide, by simp⟩
  have h1 := raw_form.back (2, 0, [[]]) [] hp
  have e : rawW (2, 0, [[]]) ++ [] = [2, 0, 1, 0] := by
    unfold rawW
    simp [levelW, vput_lt]
  rw [e] at h1
  have h2 : takeM [2, 0, 1, 0] 0 = ([], 2, (0, 0, [])) := by
    unfold takeM
    rw [h1, if_neg (by simp), if_pos (by decide)]
  unfold oneM
  rw [h2]
  rfl
theorem okF : okB bF := by
  intro x hx
  simp [bF] at hx
  omega
theorem okF2 : okB [2, 0, 1, 0] := by
  intro x hx
  simp at hx
  omega
end Go.Proofs.Rc
namespace Go.Proofs.Ytmdknedngiggdaa
open Go.RowKit Go.Shelf Go.Proofs.Vm Go.Proofs.Rw Go.Proofs.Lh

theorem levF (i : Nat) : (lev [[(5, 5)]] i).length ≤ 1000000 := by
  match i with
  | 0 => decide
  | n + 1 => rw [lev_ge (by show 1 ≤ n + 1; omega)]; simp

set_option maxRecDepth 100000 in
set_option maxHeartbeats 2000000 in
theorem awakeR_any (w : World) : Calls Try.prog 8 #[] w fun e w' => e = .returned (.bool true) ∧ Below w.heap.size w w' := by
  have hmade : ∀ (W : World), Calls Try.prog 24 #[.int .i64 0, .slice (some ⟨W.heap.size, 0, none⟩) 1 1] (W.alloc (.cells #[.int .u64 5, .int .u64 1] 63)) fun e w' => ∃ A c, e = .returned (hv 2 0 (.slice A 1 c)) ∧ Levs w' w'.heap.size (.slice A 1 c) [[(5, 5)]] ∧ Below W.heap.size W w' := by
    intro W
    have := rmade_any 0 (by omega) (by omega) [(5, 1)] (W.alloc (.cells #[.int .u64 5, .int .u64 1] 63)) (some ⟨W.heap.size, 0, none⟩) 1 1 ⟨rfl, lit_deed1 W _ 5 1, by intro x hx; rw [List.mem_singleton.1 hx]; constructor <;> simp⟩
    rw [show kOf 0 = 2 from rfl, show doneN [(5, 1)] = 1 from rfl, playF] at this
    refine this.mono ?_
    rintro e w' ⟨A, c, rfl, hL, hb⟩
    exact ⟨A, c, rfl, hL, ((Below.refl _ W).alloc (Nat.le_refl _) _).trans (hb.mono (by simp))⟩
  have hld := fun (W : World) (A : Option Addr) (n c : Nat) => lmade_any 2 0 A n c W
  have hput : ∀ (W : World) (A : Option Addr) (c : Nat), Levs W W.heap.size (.slice A 1 c) [[(5, 5)]] → Calls Try.prog 10 #[.agg #[.int .i64 2, .int .i64 0, .slice A 1 c]] W fun e w' => ∃ v, e = .returned v ∧ w'.ownsRow W.heap.size 5 1 v 6 (Rc.bF.map (Value.int .u8)) ∧ Below W.heap.size W w' := by
    intro W A c hL
    have := rput_any 2 0 [[(5, 5)]] (by decide) levF (by decide) W A c hL.reads
    rw [show (2, 0, [[(5, 5)]]) = Rc.mF from rfl, Rc.putF] at this
    exact this
  have hone : ∀ (W : World) (v : Value), Holds W W.heap.size v Rc.bF → Calls Try.prog 13 #[v] W fun e w' => ∃ A c, e = .returned (.tuple #[hv 2 0 (.slice A 1 c), .int .i64 0]) ∧ Levs w' w'.heap.size (.slice A 1 c) [[(5, 5)]] ∧ Below W.heap.size W w' := by
    intro W v hh
    have := oneR_any hh Rc.okF (by decide)
    rw [Rc.oneF1] at this
    refine this.mono ?_
    rintro e w' ⟨u, rfl, ⟨A, c, rfl, hL⟩, hb⟩
    exact ⟨A, c, rfl, hL, hb⟩
  have hone2 : ∀ (W : World), Calls Try.prog 13 #[.slice (some ⟨W.heap.size, 0, none⟩) 4 4] (W.alloc (.cells #[.int .u8 2, .int .u8 0, .int .u8 1, .int .u8 0] 5)) fun e w' => ∃ A c, e = .returned (.tuple #[hv 0 0 (.slice A 0 c), .int .i64 2]) ∧ Below W.heap.size W w' := by
    intro W
    have hh := (Holds.lit W (fr := (0, 0)) W.heap.size rfl [2, 0, 1, 0] #[.int .u8 2, .int .u8 0, .int .u8 1, .int .u8 0] 4 rfl rfl (by decide))
    have := oneR_any (hh.mono (by simp)) Rc.okF2 (by decide)
    rw [Rc.oneF2] at this
    refine this.mono ?_
    rintro e w' ⟨u, rfl, ⟨A, c, rfl, hL⟩, hb⟩
    exact ⟨A, c, rfl, ((Below.refl _ W).alloc (Nat.le_refl _) _).trans (hb.mono (by simp))⟩
  have hsame : ∀ (W : World) (A A2 : Option Addr) (c c2 : Nat), Levs W W.heap.size (.slice A 1 c) [[(5, 5)]] → Levs W W.heap.size (.slice A2 1 c2) [[(5, 5)]] → Calls Try.prog 26 #[.agg #[.int .i64 2, .int .i64 0, .slice A 1 c], .agg #[.int .i64 2, .int .i64 0, .slice A2 1 c2]] W fun e w' => e = .returned (.bool true) ∧ Below W.heap.size W w' := by
    intro W A A2 c c2 h1 h2
    have := hsame_any 2 0 2 0 [[(5, 5)]] [[(5, 5)]] (by decide) (fun i => by have := levF i; omega) W A A2 c c2 h1 h2
    rw [show sameB 2 0 2 0 [[(5, 5)]] [[(5, 5)]] = true from by decide] at this
    exact this
  have hlit : ∀ W : World, (convert 28 9 (.slice (some ⟨W.heap.size, 0, none⟩) 6 6)).run Try.prog (W.alloc (.cells #[.int .u8 2, .int .u8 0, .int .u8 1, .int .u8 1, .int .u8 5, .int .u8 0] 5)) = .ok (.string (strOf Rc.bF)) (W.alloc (.cells #[.int .u8 2, .int .u8 0, .int .u8 1, .int .u8 1, .int .u8 5, .int .u8 0] 5)) := fun W =>
    run_str (Holds.lit W (fr := (0, 0)) W.heap.size rfl Rc.bF #[.int .u8 2, .int .u8 0, .int .u8 1, .int .u8 1, .int .u8 5, .int .u8 0] 6 rfl rfl (by decide)) Rc.okF
  have M1 := Lib.hid hmade
  have LD := Lib.hid hld
  have PU := Lib.hid hput
  have O1 := Lib.hid hone
  have O2 := Lib.hid hone2
  have SA := Lib.hid hsame
  clear hmade hld hput hone hone2 hsame
  go_enter Try.func8, Try.ntmps8
  go_upto_region 2 with (first
    | (go_at_call 24; refine (M1.out _).mono ?_; rintro e w1 ⟨A1, c1, rfl, hL1, hb1⟩; have HL1 := Lib.hid hL1; have HB1 := Lib.hid hb1; clear hL1 hb1)
    | (go_at_call 11; refine (LD.out _ _ _ _).mono ?_; rintro e w2 ⟨rfl, hb2⟩; have HL2 := Lib.hid (HL1.out.grow hb2); have HB2 := Lib.hid (thn HB1.out hb2); clear hb2))
  have p1 := heap_alloc_new w2 (.cells #[.int .i64 2, .int .i64 0, .slice A1 1 c1] 30)
  have b1 := (Below.refl w2.heap.size w2).alloc (Nat.le_refl _) (.cells #[.int .i64 2, .int .i64 0, .slice A1 1 c1] 30)
  have LA := Lib.hid (HL2.out.grow b1)
  have BA := Lib.hid (thn HB2.out b1)
  have PA := Lib.hid p1
  generalize w2.alloc (.cells #[.int .i64 2, .int .i64 0, .slice A1 1 c1] 30) = Wa at *
  obtain ⟨pA, hpA⟩ : ∃ p, w2.heap.size = p := ⟨_, rfl⟩
  rw [hpA] at PA ⊢
  clear p1 b1 hpA HL1 HL2 HB1 HB2
  obtain ⟨x0, x1, x2⟩ := box3 PA.out
  have lh := lt_of PA.out
  go_upto_region 3 with (go_at_call 10; refine (PU.out _ _ _ LA.out).mono ?_; rintro e w3 ⟨v3, rfl, ho3, hb3⟩; have HO3 := Lib.hid ho3; have LB := Lib.hid (LA.out.grow hb3); have BB := Lib.hid (thn BA.out hb3); have PB := Lib.hid ((hb3.block _ (lt_of PA.out)).trans PA.out); clear ho3 hb3)
  clear x0 x1 x2 lh PA LA BA
  go_upto_region 4 with (go_at_call 13; refine (O1.out _ _ (Holds.of_own HO3.out)).mono ?_; rintro e w4 ⟨A4, c4, rfl, hL4, hb4⟩; have HO4 := Lib.hid (ownsRow_below HO3.out hb4); have LC := Lib.hid (LB.out.grow hb4); have L4 := Lib.hid hL4; have BC := Lib.hid (thn BB.out hb4); have PC := Lib.hid ((hb4.block _ (lt_of PB.out)).trans PB.out); clear hL4 hb4)
  have p4 := heap_alloc_new w4 (.cells #[.int .i64 2, .int .i64 0, .slice A4 1 c4] 30)
  have b4 := (Below.refl w4.heap.size w4).alloc (Nat.le_refl _) (.cells #[.int .i64 2, .int .i64 0, .slice A4 1 c4] 30)
  have HO5 := Lib.hid (ownsRow_below HO4.out b4)
  have LD4 := Lib.hid (L4.out.grow b4)
  have LE := Lib.hid (LC.out.grow b4)
  have BE := Lib.hid (thn BC.out b4)
  have PE := Lib.hid ((b4.block _ (lt_of PC.out)).trans PC.out)
  have P4 := Lib.hid p4
  generalize w4.alloc (.cells #[.int .i64 2, .int .i64 0, .slice A4 1 c4] 30) = We at *
  obtain ⟨p3, hp3⟩ : ∃ p, w4.heap.size = p := ⟨_, rfl⟩
  rw [hp3] at P4 ⊢
  clear p4 b4 hp3 HO3 HO4 LB LC L4 BB BC PB PC
  go_upto_region 5 with (go_at_call 13; refine (O2.out _).mono ?_; rintro e w6 ⟨A6, c6, rfl, hb6⟩; have HB6 := Lib.hid hb6; clear hb6)
  have b6 := thn HB6.out ((Below.refl w6.heap.size w6).alloc (Nat.le_refl _) (.cells #[.int .i64 0, .int .i64 0, .slice A6 0 c6] 30))
  generalize w6.alloc (.cells #[.int .i64 0, .int .i64 0, .slice A6 0 c6] 30) = Wg at *
  have LG4 := Lib.hid (LD4.out.grow b6)
  have LG := Lib.hid (LE.out.grow b6)
  have BG := Lib.hid (thn BE.out b6)
  have q1 := (b6.block _ (lt_of PE.out)).trans PE.out
  have q4 := (b6.block _ (lt_of P4.out)).trans P4.out
  have r3 := own_str (ownsRow_below HO5.out b6) Rc.okF
  obtain ⟨x0, x1, x2⟩ := box3 q1
  have lx := lt_of q1
  obtain ⟨y0, y1, y2⟩ := box3 q4
  have ly := lt_of q4
  clear b6 q1 q4 HB6
  go_wp2_with (go_at_call 26; (with_reducible refine (SA.out _ _ _ _ _ (LG4.out.grow ((Below.refl _ _).alloc (Nat.le_refl _) _)) (LG.out.grow ((Below.refl _ _).alloc (Nat.le_refl _) _))).mono ?_); rintro e w7 ⟨rfl, hb7⟩)
  go_ret
  exact ⟨rfl, thn BG.out (((Below.refl _ _).alloc (Nat.le_refl _) _).trans (hb7.mono (by simp)))⟩
end Go.Proofs.Ytmdknedngiggdaa
end
