/- The document's own answers: skylightref02. -/
import Derived.Test.YtemplngmkpldeaaReader
import Derived.Test.YtemplngmkpldeaaRef
namespace Go.Proofs.Ytemplngmkpldeaa
open Go.RowKit Go.Proofs.Vm

/-- Bytes that a literal has laid: a new block of theirs alone. -/
theorem Holds.lit (w : World) {fr : Nat × Nat} (N : Nat) (hN : w.heap.size = N) (bs : List Int) (cs : Array Value) (n : Nat) (hn : bs.length = n) (hcs : cs = (bs.map (Value.int .u8)).toArray) (hm : bs.length ≤ maxLen) : Holds (w.alloc (.cells cs 5 fr)) (N + 1) (.slice (some ⟨N, 0, none⟩) n n) bs := by
  subst hn; subst hcs; subst hN
  refine ⟨_, bs.length, rfl, Nat.le_refl _, hm, .inr ⟨w.heap.size, 0, by omega, rfl, fun j hj => ?_⟩⟩
  rw [Nat.zero_add, World.cell?_alloc_mark, List.getElem?_toArray, List.getElem?_map, List.getElem?_eq_getElem hj, List.getD_eq_getElem?_getD, List.getElem?_eq_getElem hj]
  rfl

theorem bcell {W w1 : World} (hb : Below W.heap.size W w1) : (∀ b o, b < W.heap.size → w1.cell? ⟨b, o, none⟩ = W.cell? ⟨b, o, none⟩) ∧ (∀ b o, b < W.heap.size → w1.frozen? ⟨b, o, none⟩ = W.frozen? ⟨b, o, none⟩) :=
  ⟨fun b o h => hb.cell (p := ⟨b, o, none⟩) h, fun b o h => hb.frozen (p := ⟨b, o, none⟩) h⟩

theorem rfNum_own (x : Nat) (hx : x < 18446744073709551616) (w : World) :
    Calls Try.prog 10 #[.int .u64 x] w fun e w' => ∃ v, e = .returned v ∧ w'.ownsRow w.heap.size 5 1 v (vput x).length ((vput x).map (Value.int .u8)) ∧ Below w.heap.size w w' := by
  have HX := Lib.hid hx
  clear hx
  go_enter Try.func10, Try.ntmps10
  go_wp2_with (go_at_call 28; (with_reducible refine (refPut_any x HX.out _).mono ?_); rintro e w1 ⟨v1, rfl, h1, hb1⟩; have H1 := Lib.hid h1; have HB1 := Lib.hid hb1; clear h1 hb1)
  go_ret
  exact ⟨v1, rfl, H1.out, HB1.out⟩

theorem vfix_take (n k : Nat) (hk : k < 8) : (vfix n).take (k + 1) = (vfix n).take k ++ [fixB n k] := by
  rw [List.take_succ_eq_append_getElem (by rw [vfix_len]; omega)]
  congr 2
  simp [vfix]

theorem fix_word' (n k : Nat) (hk : k < 8) : (n : Int) / 2 ^ (56 - 8 * k) % 256 = fixB n k := by
  rw [← fix_word, show 56 - 8 * k = 8 * (7 - k) by omega]

set_option maxHeartbeats 1000000 in
theorem rfFixed_own (n : Nat) (hn : n < 18446744073709551616) (w : World) :
    Calls Try.prog 12 #[.int .u64 n] w fun e w' => ∃ v, e = .returned v ∧ w'.ownsRow w.heap.size 5 1 v (vfix n).length ((vfix n).map (Value.int .u8)) ∧ Below w.heap.size w w' := by
  have hn2 : (n : Int) ≤ 18446744073709551615 := by omega
  clear hn
  go_enter Try.func12, Try.ntmps12
  go_wp2
  go_loopw [3, 4] (fun o i wr => ∃ k : Nat, k ≤ 8 ∧ i = .int .i64 k ∧ Hid (wr.ownsRow w.heap.size 5 1 o ((vfix n).take k).length (((vfix n).take k).map (Value.int .u8))) ∧ Hid (Below w.heap.size w wr)) (fun _ i _ => 8 - (intOf i).toNat)
  case atStart => exact ⟨0, by omega, rfl, World.ownsRow_nil _ _ _ _, Below.refl _ _⟩
  case round =>
    rename_i o
    obtain ⟨k, hk, rfl, HR, HB⟩ := hrel
    by_cases hlt : k < 8
    · have HW := Lib.hid (fix_word' n k hlt)
      have hl : ((vfix n).take k).length ≤ 8 := by rw [List.length_take, vfix_len]; omega
      go_wp2_with (at_builtin; go_loud (refine wpList_app _ rfl (.tmp 9) (.tmp 16) rfl w.heap.size _ _ ((vfix n).take k) [fixB n k] (wr.heap.size + 1) rfl (HR.out.alloc _) rfl (Holds.lit wr wr.heap.size rfl [fixB n k] _ 1 rfl (by simp [HW.out]) (by simp [maxLen])) (by simp; omega) (by have := HB.out.size; simp; omega) ?_; intro v1 wc hown1 hg1; have H1 := Lib.hid hown1; have HG1 := Lib.hid ((HB.out.alloc HB.out.size _).grown hg1 (by have := HB.out.size; simp; omega) (fun j ej => (HR.out.lt j ej).1)); clear hown1 hg1))
      go_roundw
      case rel =>
        refine ⟨k + 1, by omega, by go_num, ?_, HG1.out⟩
        rw [vfix_take n k hlt]
        exact H1.out
      case measure => simp [intOf]; omega
    · obtain rfl : k = 8 := by omega
      clear hlt
      go_wp2
      go_ret
      have h8 := HR.out
      rw [List.take_of_length_le (by rw [vfix_len]; omega)] at h8
      exact ⟨_, rfl, h8, HB.out⟩

set_option maxHeartbeats 1000000 in
theorem rfText_own {w : World} {v : Value} {bs : List Int} (h : Holds w w.heap.size v bs) (hl : bs.length ≤ 100000) :
    Calls Try.prog 14 #[v] w fun e w' => ∃ v, e = .returned v ∧ w'.ownsRow w.heap.size 5 1 v (vtext bs).length ((vtext bs).map (Value.int .u8)) ∧ Below w.heap.size w w' := by
  have HH := Lib.hid h
  obtain ⟨A, cap, rfl, h1, h2, h3⟩ := h
  clear h1 h2 h3
  have hv10 := vput_len10 bs.length (by omega)
  go_enter Try.func14, Try.ntmps14
  go_wp2_with (first
    | (go_at_call 10; (with_reducible refine (rfNum_own bs.length (by omega) _).mono ?_); rintro e w1 ⟨v1, rfl, h1, hb1⟩; have H1 := Lib.hid h1; have HB1 := Lib.hid (((Below.refl w.heap.size w).alloc (Nat.le_refl _) _).trans (hb1.mono (by simp))); have HO1 := Lib.hid (ownsRow_below (World.ownsRow_made w #[] 0 (Nat.le_refl w.heap.size) (by decide) (show (#[] : Array Value).size = 0 * 1 from rfl) (e := 5)) hb1); have hz := hb1.size; clear h1 hb1)
    | (at_builtin; refine wpList_app _ rfl (.tmp 4) (.tmp 8) rfl w.heap.size _ _ [] (vput bs.length) w1.heap.size rfl HO1.out rfl (Holds.of_own H1.out) (by simp; omega) HB1.out.size ?_; intro v2 w2 hown2 hg2; have H2 := Lib.hid hown2; have HG2 := Lib.hid (HB1.out.grown hg2 HB1.out.size (fun j ej => by cases ej; exact Nat.le_refl _)); clear hown2 hg2)
    | (at_builtin; refine wpList_app _ rfl (.tmp 10) (.tmp 11) rfl w.heap.size _ _ (vput bs.length) bs w.heap.size rfl H2.out rfl (HH.out.below HG2.out) (by omega) HG2.out.size ?_; intro v3 w3 hown3 hg3; have H3 := Lib.hid hown3; have HG3 := Lib.hid (HG2.out.grown hg3 HG2.out.size (fun j ej => (H2.out.lt j ej).1)); clear hown3 hg3))
  go_ret
  exact ⟨_, rfl, H3.out, HG3.out⟩

theorem rfEnd_any (w : World) (A : Option Addr) (l c : Nat) (e : Int) (bs : List Int) (hl : bs.length = l) : Calls Try.prog 26 #[.agg #[.slice A l c, .int .i64 e]] w fun r w' => r = .returned (.int .i64 (rEnd bs e)) ∧ Below w.heap.size w w' := by
  subst hl
  by_cases he : e = 0
  · subst he
    by_cases hl : 0 < bs.length
    · go_enter Try.func26, Try.ntmps26
      go_wp2
      go_ret
      exact ⟨by simp [rEnd, hl], (Below.refl _ _).alloc (Nat.le_refl _) _⟩
    · have hl' : bs.length = 0 := by omega
      go_enter Try.func26, Try.ntmps26
      go_wp2
      go_ret
      exact ⟨by simp [rEnd, hl], (Below.refl _ _).alloc (Nat.le_refl _) _⟩
  · have he' : (e == 0) = false := by simpa using he
    go_enter Try.func26, Try.ntmps26
    go_wp2
    go_ret
    exact ⟨by simp [rEnd, he], (Below.refl _ _).alloc (Nat.le_refl _) _⟩

theorem rfFail_any (w : World) (A : Option Addr) (l c : Nat) (e x : Int) : Calls Try.prog 33 #[.agg #[.slice A l c, .int .i64 e], .int .i64 x] w fun r w' => r = .returned (.agg #[.slice A l c, .int .i64 (rFail e x)]) ∧ Below w.heap.size w w' := by
  by_cases he : e = 0
  · subst he
    go_enter Try.func33, Try.ntmps33
    go_wp2
    exact bodyPost_ret (v := .agg #[.slice A l c, .int .i64 x]) (by simp [results, Try.results33, go_sem]) rfl ⟨by simp [rFail], ((Below.refl _ _).alloc (Nat.le_refl _) _).alloc (by simp) _⟩
  · have he' : (e == 0) = false := by simpa using he
    go_enter Try.func33, Try.ntmps33
    go_wp2
    exact bodyPost_ret (v := .agg #[.slice A l c, .int .i64 e]) (by simp [results, Try.results33, go_sem]) rfl ⟨by simp [rFail, he], ((Below.refl _ _).alloc (Nat.le_refl _) _).alloc (by simp) _⟩

theorem pow7 : (256 : Nat) ^ 7 = 72057594037927936 := by decide

/-- What 'Read' and 'ReadFixed' tell. -/
def RfPost (w : World) (B : Nat) (r : List Int × Int × Nat) (e : Ending) (w' : World) : Prop :=
  ∃ A c, e = .returned (.tuple #[.agg #[.slice A r.1.length c, .int .i64 r.2.1], .int .u64 (r.2.2 : Int)]) ∧ Holds w' B (.slice A r.1.length c) r.1 ∧ Below w.heap.size w w'

set_option maxRecDepth 100000 in
set_option maxHeartbeats 1000000 in
theorem rfRead_any {w : World} {B : Nat} {A : Option Addr} {cap : Nat} {bs : List Int} (hB : B ≤ w.heap.size) (h : Holds w B (.slice A bs.length cap) bs) (hb : ∀ x ∈ bs, 0 ≤ x ∧ x ≤ 255) (e : Int) (most : Nat) :
    Calls Try.prog 17 #[.agg #[.slice A bs.length cap, .int .i64 e], .int .u64 most] w (RfPost w B (rNum bs e most)) := by
  have HH := Lib.hid h
  have hcap : bs.length ≤ cap ∧ cap ≤ maxLen := by obtain ⟨A', c', hv, g1, g2, _⟩ := h; injection hv with _ _ e3; subst e3; exact ⟨g1, g2⟩
  unfold maxLen at hcap
  obtain ⟨hcap1, hcap2⟩ := hcap
  clear h
  by_cases he : e = 0
  · subst he
    obtain ⟨n, k, c, ht⟩ : ∃ n k c, vtake bs = (n, k, c) := ⟨_, _, _, rfl⟩
    have HT := Lib.hid (fun (o1 o2 : Obj) => refTake_any ((HH.out.alloc hB o1).alloc (by simp; omega) o2) hb)
    have hkb : k ≤ bs.length := by rcases vtake_cases bs hb with q | q | ⟨a, k', q, _, q2, _⟩ <;> rw [ht] at q <;> cases q <;> omega
    have HTT := Lib.hid ht
    rw [ht] at HT
    clear ht
    by_cases hc : c = 0
    · subst hc
      by_cases hm : most < n
      · have HQ := Lib.hid (rNum_more HTT.out hm)
        go_enter Try.func17, Try.ntmps17
        go_wp2_with (first
          | (go_at_call 32; (with_reducible refine (HT.out _ _).mono ?_); clear HT; rintro e w1 ⟨rfl, rfl⟩; dsimp only [tk])
          | (go_at_call 33; (with_reducible refine (rfFail_any _ _ _ _ _ _).mono ?_); rintro e w1 ⟨rfl, hb1⟩; obtain ⟨hc1, hf1⟩ := bcell hb1; have hz1 := hb1.size; simp only [World.size_alloc] at hz1; have HB1 := Lib.hid hb1; clear hb1))
        refine bodyPost_ret (v := .tuple #[.agg #[.slice A bs.length cap, .int .i64 2], .int .u64 0]) (by simp [results, Try.results17, go_sem, hc1, rFail]) rfl ?_
        rw [HQ.out]
        have hbl := (((((Below.refl w.heap.size w).alloc (Nat.le_refl _) _).alloc (by simp) _).trans (HB1.out.mono (by simp; omega))).setCell (p := ⟨w.heap.size + 1, 0, none⟩) (by simp) (.slice A bs.length cap)).setCell (p := ⟨w.heap.size + 1, 1, none⟩) (by simp) (.int .i64 (rFail 0 2))
        exact ⟨A, cap, rfl, HH.out.below (hbl.mono hB), hbl⟩
      · have HQ := Lib.hid (rNum_ok HTT.out hm)
        have hm' : ¬ (most : Int) < n := by omega
        have hdl : (bs.drop k).length = bs.length - k := by simp
        have HDL := Lib.hid hdl
        clear hdl
        go_enter Try.func17, Try.ntmps17
        go_wp2_with (go_at_call 32; (with_reducible refine (HT.out _ _).mono ?_); clear HT; rintro e w1 ⟨rfl, rfl⟩; dsimp only [tk])
        · obtain rfl : k = bs.length := by omega
          refine bodyPost_ret (v := .tuple #[.agg #[.slice A 0 0, .int .i64 0], .int .u64 n]) (by simp [results, Try.results17, go_sem]) rfl ?_
          rw [HQ.out, List.drop_of_length_le (Nat.le_refl _)]
          exact ⟨A, 0, rfl, Holds.nothing _ _ (by decide), ((Below.refl _ _).alloc (Nat.le_refl _) _).alloc (by simp) _⟩
        · refine bodyPost_ret (v := .tuple #[.agg #[.slice (Option.map (fun x => x.add k) A) (bs.length - k) (cap - k), .int .i64 0], .int .u64 n]) (by simp [results, Try.results17, go_sem]) rfl ?_
          rw [HQ.out]
          refine ⟨Option.map (fun x => x.add k) A, cap - k, by dsimp only; rw [HDL.out], ?_, ((Below.refl _ _).alloc (Nat.le_refl _) _).alloc (by simp) _⟩
          dsimp only
          rw [HDL.out]
          exact ((HH.out.drop k hkb).alloc hB _).alloc (by simp; omega) _
    · have HQ := Lib.hid (rNum_err (most := most) HTT.out hc)
      have hc' : ((c : Int) != 0) = true := by simpa using hc
      go_enter Try.func17, Try.ntmps17
      go_wp2_with (first
        | (go_at_call 32; (with_reducible refine (HT.out _ _).mono ?_); clear HT; rintro e w1 ⟨rfl, rfl⟩; dsimp only [tk])
        | (go_at_call 33; (with_reducible refine (rfFail_any _ _ _ _ _ _).mono ?_); rintro e w1 ⟨rfl, hb1⟩; obtain ⟨hc1, hf1⟩ := bcell hb1; have hz1 := hb1.size; simp only [World.size_alloc] at hz1; have HB1 := Lib.hid hb1; clear hb1))
      refine bodyPost_ret (v := .tuple #[.agg #[.slice A bs.length cap, .int .i64 c], .int .u64 0]) (by simp [results, Try.results17, go_sem, hc1, rFail]) rfl ?_
      rw [HQ.out]
      have hbl := (((((Below.refl w.heap.size w).alloc (Nat.le_refl _) _).alloc (by simp) _).trans (HB1.out.mono (by simp; omega))).setCell (p := ⟨w.heap.size + 1, 0, none⟩) (by simp) (.slice A bs.length cap)).setCell (p := ⟨w.heap.size + 1, 1, none⟩) (by simp) (.int .i64 (rFail 0 c))
      exact ⟨A, cap, rfl, HH.out.below (hbl.mono hB), hbl⟩
  · have he' : (e != 0) = true := by simpa using he
    have HQ := Lib.hid (rNum_bad bs e he most)
    go_enter Try.func17, Try.ntmps17
    go_wp2
    refine bodyPost_ret (v := .tuple #[.agg #[.slice A bs.length cap, .int .i64 e], .int .u64 0]) (by simp [results, Try.results17, go_sem]) rfl ?_
    rw [HQ.out]
    exact ⟨A, cap, rfl, (HH.out.alloc hB _).alloc (by simp; omega) _, ((Below.refl _ _).alloc (Nat.le_refl _) _).alloc (by simp) _⟩

set_option maxRecDepth 100000 in
set_option maxHeartbeats 1000000 in
theorem rfReadFixed_any {w : World} {B : Nat} {A : Option Addr} {cap : Nat} {bs : List Int} (hB : B ≤ w.heap.size) (h : Holds w B (.slice A bs.length cap) bs) (hb : ∀ x ∈ bs, 0 ≤ x ∧ x ≤ 255) (e : Int) :
    Calls Try.prog 19 #[.agg #[.slice A bs.length cap, .int .i64 e]] w (RfPost w B (rFixed bs e)) := by
  have HH := Lib.hid h
  have hcap : bs.length ≤ cap ∧ cap ≤ maxLen := by obtain ⟨A', c', hv, g1, g2, _⟩ := h; injection hv with _ _ e3; subst e3; exact ⟨g1, g2⟩
  unfold maxLen at hcap
  obtain ⟨hcap1, hcap2⟩ := hcap
  by_cases he : e = 0
  · subst he
    by_cases hl : bs.length < 8
    · have HQ : Hid (rFixed bs 0 = (bs, 3, 0)) := by show rFixed bs 0 = _; simp [rFixed, hl]
      clear h
      go_enter Try.func19, Try.ntmps19
      go_wp2_with (go_at_call 33; (with_reducible refine (rfFail_any _ _ _ _ _ _).mono ?_); rintro e w1 ⟨rfl, hb1⟩; obtain ⟨hc1, hf1⟩ := bcell hb1; have hz1 := hb1.size; simp only [World.size_alloc] at hz1; have HB1 := Lib.hid hb1; clear hb1)
      refine bodyPost_ret (v := .tuple #[.agg #[.slice A bs.length cap, .int .i64 3], .int .u64 0]) (by simp [results, Try.results19, go_sem, hc1, rFail]) rfl ?_
      rw [HQ.out]
      have hbl := (((((Below.refl w.heap.size w).alloc (Nat.le_refl _) _).alloc (by simp) _).trans (HB1.out.mono (by simp; omega))).setCell (p := ⟨w.heap.size + 1, 0, none⟩) (by simp) (.slice A bs.length cap)).setCell (p := ⟨w.heap.size + 1, 1, none⟩) (by simp) (.int .i64 (rFail 0 3))
      exact ⟨A, cap, rfl, HH.out.below (hbl.mono hB), hbl⟩
    · have HQ : Hid (rFixed bs 0 = (bs.drop 8, 0, ufix bs 8)) := by show rFixed bs 0 = _; simp [rFixed, hl]
      obtain ⟨b, off, rfl, _⟩ := h.cellAt 0 (by omega)
      clear h
      go_enter Try.func19, Try.ntmps19
      go_wp2
      go_loop [4, 5] (fun n i => ∃ k : Nat, k ≤ 8 ∧ i = .int .i64 k ∧ n = .int .u64 (ufix bs k : Int)) (fun _ i => 8 - (intOf i).toNat)
      case atStart => exact ⟨0, by omega, rfl, rfl⟩
      case round =>
        obtain ⟨k, hk, rfl, rfl⟩ := hrel
        by_cases hlt : k < 8
        · obtain ⟨b', off', hA1, hcell⟩ := HH.out.cellAt k (by omega)
          cases hA1
          have hbl : b < w.heap.size := World.block_lt_of_cell? w ⟨b, off + k, none⟩ hcell
          have hd := getD_bounds hb k
          obtain ⟨d, hdd⟩ : ∃ d : Nat, bs.getD k 0 = d := ⟨(bs.getD k 0).toNat, by omega⟩
          rw [hdd] at hcell
          have hu := ufix_lt hb k
          have hu7 : (256 : Nat) ^ k ≤ 256 ^ 7 := Nat.pow_le_pow_right (by omega) (by omega)
          rw [pow7] at hu7
          have hd2 : (d : Int) ≤ 255 := by omega
          have hu4 : (256 * ufix bs k + d : Int) ≤ 18446744073709551615 := by omega
          have hu5 : (256 * ufix bs k : Int) ≤ 18446744073709551615 := by omega
          have HS : Hid (ufix bs (k + 1) = 256 * ufix bs k + d) := by show ufix bs (k + 1) = _; rw [ufix, hdd]; simp
          clear hu hu7 hd hdd
          obtain ⟨n, hn⟩ : ∃ n, ufix bs k = n := ⟨_, rfl⟩
          rw [hn] at hu4 hu5 HS ⊢
          clear hn hb
          go_wp2
          go_round
          case rel => exact ⟨k + 1, by omega, by go_num, by rw [HS.out]; go_num⟩
          case measure => simp [intOf]; omega
        · obtain rfl : k = 8 := by omega
          clear hlt hb
          have hdl : (bs.drop 8).length = bs.length - 8 := by simp
          have HDL := Lib.hid hdl
          clear hdl
          go_wp2
          · obtain hl8 : bs.length = 8 := by omega
            refine bodyPost_ret (v := .tuple #[.agg #[.slice (some ⟨b, off, none⟩) (bs.length - 8) 0, .int .i64 0], .int .u64 (ufix bs 8)]) (by simp [results, Try.results19, go_sem]) rfl ?_
            rw [HQ.out, List.drop_of_length_le (Nat.le_of_eq hl8), hl8]
            exact ⟨some ⟨b, off, none⟩, 0, rfl, Holds.nothing _ _ (by decide), ((Below.refl _ _).alloc (Nat.le_refl _) _).alloc (by simp) _⟩
          · refine bodyPost_ret (v := .tuple #[.agg #[.slice (some ⟨b, off + 8, none⟩) (bs.length - 8) (cap - 8), .int .i64 0], .int .u64 (ufix bs 8)]) (by simp [results, Try.results19, go_sem]) rfl ?_
            rw [HQ.out]
            refine ⟨some ⟨b, off + 8, none⟩, cap - 8, by dsimp only; rw [HDL.out], ?_, ((Below.refl _ _).alloc (Nat.le_refl _) _).alloc (by simp) _⟩
            dsimp only
            rw [HDL.out]
            have hd8 := HH.out.drop 8 (by omega)
            simp only [Option.map_some, add_plain] at hd8
            exact (hd8.alloc hB _).alloc (by simp; omega) _
  · have he' : (e != 0) = true := by simpa using he
    have HQ : Hid (rFixed bs e = (bs, e, 0)) := by show rFixed bs e = _; simp [rFixed, he]
    clear h
    go_enter Try.func19, Try.ntmps19
    go_wp2
    refine bodyPost_ret (v := .tuple #[.agg #[.slice A bs.length cap, .int .i64 e], .int .u64 0]) (by simp [results, Try.results19, go_sem]) rfl ?_
    rw [HQ.out]
    exact ⟨A, cap, rfl, (HH.out.alloc hB _).alloc (by simp; omega) _, ((Below.refl _ _).alloc (Nat.le_refl _) _).alloc (by simp) _⟩


/-- What 'ReadText' tells. -/
def RtPost (w : World) (B : Nat) (r : List Int × Int × List Int) (e : Ending) (w' : World) : Prop :=
  ∃ A c A' c', e = .returned (.tuple #[.agg #[.slice A r.1.length c, .int .i64 r.2.1], .slice A' r.2.2.length c']) ∧ Holds w' B (.slice A r.1.length c) r.1 ∧ Holds w' B (.slice A' r.2.2.length c') r.2.2 ∧ Below w.heap.size w w'

set_option maxRecDepth 100000 in
set_option maxHeartbeats 2000000 in
theorem rfReadText_any {w : World} {B : Nat} {A : Option Addr} {cap : Nat} {bs : List Int} (hB : B ≤ w.heap.size) (h : Holds w B (.slice A bs.length cap) bs) (hb : ∀ x ∈ bs, 0 ≤ x ∧ x ≤ 255) (e : Int) (most : Int) (hm1 : -9223372036854775808 ≤ most) (hm2 : most ≤ 9223372036854775807) :
    Calls Try.prog 21 #[.agg #[.slice A bs.length cap, .int .i64 e], .int .i64 most] w (RtPost w B (rText bs e most)) := by
  have HH := Lib.hid h
  have HN := Lib.hid (fun (o1 o2 : Obj) => rfRead_any (by simp; omega) ((h.alloc hB o1).alloc (by simp; omega) o2) hb e most.toNat)
  have hbd := rnum_bounds bs hb e most.toNat
  obtain ⟨r, hr⟩ : ∃ r, rnum bs e most.toNat = r := ⟨_, rfl⟩
  have HD : Hid (rText bs e most = if r.2.2 ≠ 0 then (bs, r.2.2, []) else if bs.length - r.2.1 < r.1 then (bs, 3, []) else (bs.drop (r.2.1 + r.1), 0, (bs.drop r.2.1).take r.1)) := by rw [← hr]; rfl
  have HD2 : Hid (rNum bs e most.toNat = if r.2.2 ≠ 0 then (bs, r.2.2, 0) else (bs.drop r.2.1, 0, r.1)) := by rw [← hr]; rfl
  have HZ : Hid (r.2.2 = 0 → e = 0) := by
    intro h0
    rcases Decidable.em (e = 0) with he | he
    · exact he
    · rw [← hr, rnum_bad he] at h0; exact h0
  rw [hr] at hbd
  clear hr
  obtain ⟨n, k, c⟩ := r
  obtain ⟨hb1, hb2⟩ := hbd
  have hb3 : (n : Int) ≤ 18446744073709551615 := by simp only at hb1; omega
  dsimp only at hb2 HD HD2 HZ
  have hcap : bs.length ≤ cap ∧ cap ≤ maxLen := by obtain ⟨A', c', hv, g1, g2, _⟩ := h; injection hv with _ _ e3; subst e3; exact ⟨g1, g2⟩
  unfold maxLen at hcap
  obtain ⟨hcap1, hcap2⟩ := hcap
  clear hb1 h hb
  obtain ⟨m, hm⟩ : ∃ m, (most.toNat : Int) = m := ⟨_, rfl⟩
  rw [HD2.out, hm] at HN
  have hmm : (0 ≤ most ∧ m = most) ∨ (most < 0 ∧ m = 0) := by omega
  clear hm
  rcases hmm with ⟨hmp, rfl⟩ | ⟨hmp, rfl⟩
  all_goals
    by_cases hc : c = 0
    · subst hc
      obtain rfl := HZ.out rfl
      rw [if_neg (by simp)] at HD HN
      have hdl : (bs.drop k).length = bs.length - k := by simp
      have HDL := Lib.hid hdl
      by_cases hs : bs.length - k < n
      · rw [if_pos hs] at HD
        have hs' : (bs.length : Int) - k < n := by omega
        go_enter Try.func21, Try.ntmps21
        go_wp2_with (first
          | (go_at_call 17; (with_reducible refine (HN.out _ _).mono ?_); clear HN; rintro e w1 ⟨A1, c1, rfl, h1, hb1⟩; dsimp only at h1 ⊢; obtain ⟨hc1, hf1⟩ := bcell hb1; have hz := hb1.size; simp only [World.size_alloc] at hz; have hz1 : w.heap.size < w1.heap.size := (by omega); have hz2 : w.heap.size + 1 < w1.heap.size := (by omega); clear hz; have HB1 := Lib.hid hb1; have H1 := Lib.hid h1; clear hb1 h1)
          | (go_at_call 33; (with_reducible refine (rfFail_any _ _ _ _ _ _).mono ?_); rintro e w2 ⟨rfl, hb2⟩; obtain ⟨hc2, hf2⟩ := bcell hb2; have hz := hb2.size; simp only [World.size_alloc] at hz; have hz3 : w.heap.size + 1 < w2.heap.size := (by omega); have hz4 : w1.heap.size < w2.heap.size := (by omega); clear hz; have HB2 := Lib.hid hb2; clear hb2))
        refine bodyPost_ret (v := .tuple #[.agg #[.slice A bs.length cap, .int .i64 3], .slice none 0 0]) (by simp [results, Try.results21, go_sem, hc1, hc2, hz1, hz2, rFail]) rfl ?_
        rw [HD.out]
        have hbl := (((((((Below.refl w.heap.size w).alloc (Nat.le_refl _) _).alloc (by simp) _).trans (HB1.out.mono (by simp; omega))).alloc (by omega) _).trans (HB2.out.mono (by simp; omega))).setCell (p := ⟨w.heap.size + 1, 0, none⟩) (by simp) (.slice A bs.length cap)).setCell (p := ⟨w.heap.size + 1, 1, none⟩) (by simp) (.int .i64 (rFail 0 3))
        exact ⟨A, cap, none, 0, rfl, HH.out.below (hbl.mono hB), Holds.nothing _ _ (by decide), hbl⟩
      · rw [if_neg hs] at HD
        have hs' : ¬ ((bs.length - k : Nat) : Int) < n := by omega
        have hs2 : n ≤ bs.length - k := by omega
        go_enter Try.func21, Try.ntmps21
        go_wp2_with (first
          | (go_at_call 17; (with_reducible refine (HN.out _ _).mono ?_); clear HN; rintro e w1 ⟨A1, c1, rfl, h1, hb1⟩; dsimp only at h1 ⊢; obtain ⟨hc1, hf1⟩ := bcell hb1; have hz := hb1.size; simp only [World.size_alloc] at hz; have hz1 : w.heap.size < w1.heap.size := (by omega); have hz2 : w.heap.size + 1 < w1.heap.size := (by omega); clear hz; have hq : (bs.drop k).length ≤ c1 ∧ c1 ≤ maxLen := (by obtain ⟨A', c', hv, g1, g2, _⟩ := h1; injection hv with _ _ e3; subst e3; exact ⟨g1, g2⟩); unfold maxLen at hq; rw [hdl] at hq; obtain ⟨hq1, hq2⟩ := hq; have HB1 := Lib.hid hb1; have H1 := Lib.hid h1; clear hb1 h1))
        · obtain hl2 : n = bs.length - k := by omega
          refine bodyPost_ret (v := .tuple #[.agg #[.slice A1 (bs.length - k - n) 0, .int .i64 0], .slice A1 n n]) (by simp [results, Try.results21, go_sem, hc1, hz2]) rfl ?_
          rw [HD.out]
          have hbl := ((((((Below.refl w.heap.size w).alloc (Nat.le_refl _) _).alloc (by simp) _).trans (HB1.out.mono (by simp; omega))).setCell (p := ⟨w.heap.size + 1, 0, none⟩) (by simp) (.slice A1 (bs.length - k - n) 0)).setCell (p := ⟨w.heap.size + 1, 1, none⟩) (by simp) (.int .i64 0)).alloc (by simp; omega) (.cells #[.slice A1 (bs.length - k - n) 0, .int .i64 0] 32)
          refine ⟨A1, 0, A1, n, ?_, ?_, ?_, hbl⟩
          · simp; omega
          · have e1 : (bs.drop (k + n)) = [] := List.drop_of_length_le (by omega)
            dsimp only
            rw [e1]
            exact Holds.nothing _ _ (by decide)
          · have e1 : ((bs.drop k).take n).length = n := by simp; omega
            dsimp only
            rw [e1]
            refine (H1.out.cut n n (by rw [HDL.out]; omega) (Nat.le_refl _) (by unfold maxLen; omega)).below ?_
            exact (((Below.refl B w1).setCell (p := ⟨w.heap.size + 1, 0, none⟩) (by simp; omega) _).setCell (p := ⟨w.heap.size + 1, 1, none⟩) (by simp; omega) _).alloc (by simp; omega) _
        · refine bodyPost_ret (v := .tuple #[.agg #[.slice (Option.map (fun x => x.add n) A1) (bs.length - k - n) (c1 - n), .int .i64 0], .slice A1 n c1]) (by simp [results, Try.results21, go_sem, hc1, hz2]) rfl ?_
          rw [HD.out]
          have hbl := ((((((Below.refl w.heap.size w).alloc (Nat.le_refl _) _).alloc (by simp) _).trans (HB1.out.mono (by simp; omega))).setCell (p := ⟨w.heap.size + 1, 0, none⟩) (by simp) (.slice (Option.map (fun x => x.add n) A1) (bs.length - k - n) (c1 - n))).setCell (p := ⟨w.heap.size + 1, 1, none⟩) (by simp) (.int .i64 0)).alloc (by simp; omega) (.cells #[.slice (Option.map (fun x => x.add n) A1) (bs.length - k - n) (c1 - n), .int .i64 0] 32)
          have hb1 : ∀ (u1 u2 : Value) (o : Obj), Below B w1 (((w1.setCell ⟨w.heap.size + 1, 0, none⟩ u1).setCell ⟨w.heap.size + 1, 1, none⟩ u2).alloc o) := fun u1 u2 o => (((Below.refl B w1).setCell (p := ⟨w.heap.size + 1, 0, none⟩) (by simp; omega) _).setCell (p := ⟨w.heap.size + 1, 1, none⟩) (by simp; omega) _).alloc (by simp; omega) _
          have e1 : ((bs.drop k).take n).length = n := by simp; omega
          have e2 : (bs.drop (k + n)).length = bs.length - k - n := by simp; omega
          refine ⟨Option.map (fun x => x.add n) A1, c1 - n, A1, c1, ?_, ?_, ?_, hbl⟩
          · dsimp only; rw [e1, e2]
          · dsimp only
            have hd := (H1.out.drop n (by rw [HDL.out]; omega)).below (hb1 (.slice (Option.map (fun x => x.add n) A1) (bs.length - k - n) (c1 - n)) (.int .i64 0) (.cells #[.slice (Option.map (fun x => x.add n) A1) (bs.length - k - n) (c1 - n), .int .i64 0] 32))
            rw [List.drop_drop, HDL.out] at hd
            rw [e2]
            exact hd
          · dsimp only
            rw [e1]
            exact (H1.out.take n (by rw [HDL.out]; omega)).below (hb1 _ _ _)
    · have hc' : (c != 0) = true := by simpa using hc
      rw [if_pos hc] at HD HN
      go_enter Try.func21, Try.ntmps21
      go_wp2_with (go_at_call 17; (with_reducible refine (HN.out _ _).mono ?_); clear HN; rintro e' w1 ⟨A1, c1, rfl, h1, hb1⟩; dsimp only at h1 ⊢; obtain ⟨hc1, hf1⟩ := bcell hb1; have hz := hb1.size; simp only [World.size_alloc] at hz; have hz1 : w.heap.size < w1.heap.size := (by omega); have hz2 : w.heap.size + 1 < w1.heap.size := (by omega); clear hz; have hq0 : w1.cell? ⟨w.heap.size, 0, none⟩ = some (.slice A bs.length cap) := (by rw [hc1 _ _ (by simp only [World.size_alloc]; omega)]; simp); have hq1 : w1.cell? ⟨w.heap.size, 1, none⟩ = some (.int .i64 e) := (by rw [hc1 _ _ (by simp only [World.size_alloc]; omega)]; simp); have HB1 := Lib.hid hb1; have H1 := Lib.hid h1; clear hb1 h1)
      refine bodyPost_ret (v := .tuple #[.agg #[.slice A bs.length cap, .int .i64 c], .slice none 0 0]) (by simp [results, Try.results21, go_sem, hc1, hz2]) rfl ?_
      rw [HD.out]
      have hbl := (((((((Below.refl w.heap.size w).alloc (Nat.le_refl _) _).alloc (by simp) _).trans (HB1.out.mono (by simp; omega))).setCell (p := ⟨w.heap.size, 1, none⟩) (by simp) (.int .i64 c)).setCell (p := ⟨w.heap.size + 1, 0, none⟩) (by simp) (.slice A bs.length cap)).setCell (p := ⟨w.heap.size + 1, 1, none⟩) (by simp) (.int .i64 c)).alloc (by simp; omega) (.cells #[.slice A1 bs.length c1, .int .i64 c] 32)
      exact ⟨A, cap, none, 0, rfl, HH.out.below (hbl.mono hB), Holds.nothing _ _ (by decide), hbl⟩

end Go.Proofs.Ytemplngmkpldeaa
