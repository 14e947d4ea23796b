/- The document's own answers: skylightref02. · The contract of skylightref11.spans. · The contract of skylightref11.turned; and what the document's Take keeps. · The contract of record.read. -/
import Derived.Test.YtmdknedngiggdaaJ24
import Derived.Test.YtmdknedngiggdaaJ25
import Derived.Test.YtmdknedngiggdaaJ03
import Derived.Test.YtmdknedngiggdaaJ21
section
/- The document's own answers: skylightref02. -/
namespace Go.Proofs.Ytmdknedngiggdaa
open Go.RowKit Go.Proofs.Vm

/-- Bytes that a literal has laid: a new block of theirs alone. -/
theorem Holds.lit (w : World) {fr : Nat × Nat} (N : Nat) (hN : w.heap.size = N) (bs : List Int) (cs : Array Value) (n : Nat) (hn : bs.length = n) (hcs : cs = (bs.map (Value.int .u8)).toArray) (hm : bs.length ≤ maxLen) : Holds (w.alloc (.cells cs 5 fr)) (N + 1) (.slice (some ⟨N, 0, none⟩) n n) bs := by
  subst hn; subst hcs; subst hN
  refine ⟨_, bs.length, rfl, Nat.le_refl _, hm, .inr ⟨w.heap.size, 0, by omega, rfl, fun j hj => ?_⟩⟩
  rw [Nat.zero_add, World.cell?_alloc_mark, List.getElem?_toArray, List.getElem?_map, List.getElem?_eq_getElem hj, List.getD_eq_getElem?_getD, List.getElem?_eq_getElem hj]
  rfl

theorem bcell {W w1 : World} (hb : Below W.heap.size W w1) : (∀ b o, b < W.heap.size → w1.cell? ⟨b, o, none⟩ = W.cell? ⟨b, o, none⟩) ∧ (∀ b o, b < W.heap.size → w1.frozen? ⟨b, o, none⟩ = W.frozen? ⟨b, o, none⟩) :=
  ⟨fun b o h => hb.cell (p := ⟨b, o, none⟩) h, fun b o h => hb.frozen (p := ⟨b, o, none⟩) h⟩

theorem rfNum_own (x : Nat) (hx : x < 18446744073709551616) (w : World) :
    Calls Try.prog 32 #[.int .u64 x] w fun e w' => ∃ v, e = .returned v ∧ w'.ownsRow w.heap.size 5 1 v (vput x).length ((vput x).map (Value.int .u8)) ∧ Below w.heap.size w w' := by
  have HX := Lib.hid hx
  clear hx
  go_enter Try.func32, Try.ntmps32
  go_wp2_with (go_at_call 53; (with_reducible refine (refPut_any x HX.out _).mono ?_); rintro e w1 ⟨v1, rfl, h1, hb1⟩; have H1 := Lib.hid h1; have HB1 := Lib.hid hb1; clear h1 hb1)
  go_ret
  exact ⟨v1, rfl, H1.out, HB1.out⟩

theorem vfix_take (n k : Nat) (hk : k < 8) : (vfix n).take (k + 1) = (vfix n).take k ++ [fixB n k] := by
  rw [List.take_succ_eq_append_getElem (by rw [vfix_len]; omega)]
  congr 2
  simp [vfix]

theorem fix_word' (n k : Nat) (hk : k < 8) : (n : Int) / 2 ^ (56 - 8 * k) % 256 = fixB n k := by
  rw [← fix_word, show 56 - 8 * k = 8 * (7 - k) by omega]

theorem rfEnd_any (w : World) (A : Option Addr) (l c : Nat) (e : Int) (bs : List Int) (hl : bs.length = l) : Calls Try.prog 33 #[.agg #[.slice A l c, .int .i64 e]] w fun r w' => r = .returned (.int .i64 (rEnd bs e)) ∧ Below w.heap.size w w' := by
  subst hl
  by_cases he : e = 0
  · subst he
    by_cases hl : 0 < bs.length
    · go_enter Try.func33, Try.ntmps33
      go_wp2
      go_ret
      exact ⟨by simp [rEnd, hl], (Below.refl _ _).alloc (Nat.le_refl _) _⟩
    · have hl' : bs.length = 0 := by omega
      go_enter Try.func33, Try.ntmps33
      go_wp2
      go_ret
      exact ⟨by simp [rEnd, hl], (Below.refl _ _).alloc (Nat.le_refl _) _⟩
  · have he' : (e == 0) = false := by simpa using he
    go_enter Try.func33, Try.ntmps33
    go_wp2
    go_ret
    exact ⟨by simp [rEnd, he], (Below.refl _ _).alloc (Nat.le_refl _) _⟩

theorem rfFail_any (w : World) (A : Option Addr) (l c : Nat) (e x : Int) : Calls Try.prog 58 #[.agg #[.slice A l c, .int .i64 e], .int .i64 x] w fun r w' => r = .returned (.agg #[.slice A l c, .int .i64 (rFail e x)]) ∧ Below w.heap.size w w' := by
  by_cases he : e = 0
  · subst he
    go_enter Try.func58, Try.ntmps58
    go_wp2
    exact bodyPost_ret (v := .agg #[.slice A l c, .int .i64 x]) (by simp [results, Try.results58, go_sem]) rfl ⟨by simp [rFail], ((Below.refl _ _).alloc (Nat.le_refl _) _).alloc (by simp) _⟩
  · have he' : (e == 0) = false := by simpa using he
    go_enter Try.func58, Try.ntmps58
    go_wp2
    exact bodyPost_ret (v := .agg #[.slice A l c, .int .i64 e]) (by simp [results, Try.results58, go_sem]) rfl ⟨by simp [rFail, he], ((Below.refl _ _).alloc (Nat.le_refl _) _).alloc (by simp) _⟩

theorem pow7 : (256 : Nat) ^ 7 = 72057594037927936 := by decide

/-- What 'Read' and 'ReadFixed' tell. -/
def RfPost (w : World) (B : Nat) (r : List Int × Int × Nat) (e : Ending) (w' : World) : Prop :=
  ∃ A c, e = .returned (.tuple #[.agg #[.slice A r.1.length c, .int .i64 r.2.1], .int .u64 (r.2.2 : Int)]) ∧ Holds w' B (.slice A r.1.length c) r.1 ∧ Below w.heap.size w w'

set_option maxRecDepth 100000 in
set_option maxHeartbeats 1000000 in
theorem rfRead_any {w : World} {B : Nat} {A : Option Addr} {cap : Nat} {bs : List Int} (hB : B ≤ w.heap.size) (h : Holds w B (.slice A bs.length cap) bs) (hb : ∀ x ∈ bs, 0 ≤ x ∧ x ≤ 255) (e : Int) (most : Nat) :
    Calls Try.prog 37 #[.agg #[.slice A bs.length cap, .int .i64 e], .int .u64 most] w (RfPost w B (rNum bs e most)) := by
  have HH := Lib.hid h
  have hcap : bs.length ≤ cap ∧ cap ≤ maxLen := by obtain ⟨A', c', hv, g1, g2, _⟩ := h; injection hv with _ _ e3; subst e3; exact ⟨g1, g2⟩
  unfold maxLen at hcap
  obtain ⟨hcap1, hcap2⟩ := hcap
  clear h
  by_cases he : e = 0
  · subst he
    obtain ⟨n, k, c, ht⟩ : ∃ n k c, vtake bs = (n, k, c) := ⟨_, _, _, rfl⟩
    have HT := Lib.hid (fun (o1 o2 : Obj) => refTake_any ((HH.out.alloc hB o1).alloc (by simp; omega) o2) hb)
    have hkb : k ≤ bs.length := by rcases vtake_cases bs hb with q | q | ⟨a, k', q, _, q2, _⟩ <;> rw [ht] at q <;> cases q <;> omega
    have HTT := Lib.hid ht
    rw [ht] at HT
    clear ht
    by_cases hc : c = 0
    · subst hc
      by_cases hm : most < n
      · have HQ := Lib.hid (rNum_more HTT.out hm)
        go_enter Try.func37, Try.ntmps37
        go_wp2_with (first
          | (go_at_call 57; (with_reducible refine (HT.out _ _).mono ?_); clear HT; rintro e w1 ⟨rfl, rfl⟩; dsimp only [tk])
          | (go_at_call 58; (with_reducible refine (rfFail_any _ _ _ _ _ _).mono ?_); rintro e w1 ⟨rfl, hb1⟩; obtain ⟨hc1, hf1⟩ := bcell hb1; have hz1 := hb1.size; simp only [World.size_alloc] at hz1; have HB1 := Lib.hid hb1; clear hb1))
        refine bodyPost_ret (v := .tuple #[.agg #[.slice A bs.length cap, .int .i64 2], .int .u64 0]) (by simp [results, Try.results37, go_sem, hc1, rFail]) rfl ?_
        rw [HQ.out]
        have hbl := (((((Below.refl w.heap.size w).alloc (Nat.le_refl _) _).alloc (by simp) _).trans (HB1.out.mono (by simp; omega))).setCell (p := ⟨w.heap.size + 1, 0, none⟩) (by simp) (.slice A bs.length cap)).setCell (p := ⟨w.heap.size + 1, 1, none⟩) (by simp) (.int .i64 (rFail 0 2))
        exact ⟨A, cap, rfl, HH.out.below (hbl.mono hB), hbl⟩
      · have HQ := Lib.hid (rNum_ok HTT.out hm)
        have hm' : ¬ (most : Int) < n := by omega
        have hdl : (bs.drop k).length = bs.length - k := by simp
        have HDL := Lib.hid hdl
        clear hdl
        go_enter Try.func37, Try.ntmps37
        go_wp2_with (go_at_call 57; (with_reducible refine (HT.out _ _).mono ?_); clear HT; rintro e w1 ⟨rfl, rfl⟩; dsimp only [tk])
        · obtain rfl : k = bs.length := by omega
          refine bodyPost_ret (v := .tuple #[.agg #[.slice A 0 0, .int .i64 0], .int .u64 n]) (by simp [results, Try.results37, go_sem]) rfl ?_
          rw [HQ.out, List.drop_of_length_le (Nat.le_refl _)]
          exact ⟨A, 0, rfl, Holds.nothing _ _ (by decide), ((Below.refl _ _).alloc (Nat.le_refl _) _).alloc (by simp) _⟩
        · refine bodyPost_ret (v := .tuple #[.agg #[.slice (Option.map (fun x => x.add k) A) (bs.length - k) (cap - k), .int .i64 0], .int .u64 n]) (by simp [results, Try.results37, go_sem]) rfl ?_
          rw [HQ.out]
          refine ⟨Option.map (fun x => x.add k) A, cap - k, by dsimp only; rw [HDL.out], ?_, ((Below.refl _ _).alloc (Nat.le_refl _) _).alloc (by simp) _⟩
          dsimp only
          rw [HDL.out]
          exact ((HH.out.drop k hkb).alloc hB _).alloc (by simp; omega) _
    · have HQ := Lib.hid (rNum_err (most := most) HTT.out hc)
      have hc' : ((c : Int) != 0) = true := by simpa using hc
      go_enter Try.func37, Try.ntmps37
      go_wp2_with (first
        | (go_at_call 57; (with_reducible refine (HT.out _ _).mono ?_); clear HT; rintro e w1 ⟨rfl, rfl⟩; dsimp only [tk])
        | (go_at_call 58; (with_reducible refine (rfFail_any _ _ _ _ _ _).mono ?_); rintro e w1 ⟨rfl, hb1⟩; obtain ⟨hc1, hf1⟩ := bcell hb1; have hz1 := hb1.size; simp only [World.size_alloc] at hz1; have HB1 := Lib.hid hb1; clear hb1))
      refine bodyPost_ret (v := .tuple #[.agg #[.slice A bs.length cap, .int .i64 c], .int .u64 0]) (by simp [results, Try.results37, go_sem, hc1, rFail]) rfl ?_
      rw [HQ.out]
      have hbl := (((((Below.refl w.heap.size w).alloc (Nat.le_refl _) _).alloc (by simp) _).trans (HB1.out.mono (by simp; omega))).setCell (p := ⟨w.heap.size + 1, 0, none⟩) (by simp) (.slice A bs.length cap)).setCell (p := ⟨w.heap.size + 1, 1, none⟩) (by simp) (.int .i64 (rFail 0 c))
      exact ⟨A, cap, rfl, HH.out.below (hbl.mono hB), hbl⟩
  · have he' : (e != 0) = true := by simpa using he
    have HQ := Lib.hid (rNum_bad bs e he most)
    go_enter Try.func37, Try.ntmps37
    go_wp2
    refine bodyPost_ret (v := .tuple #[.agg #[.slice A bs.length cap, .int .i64 e], .int .u64 0]) (by simp [results, Try.results37, go_sem]) rfl ?_
    rw [HQ.out]
    exact ⟨A, cap, rfl, (HH.out.alloc hB _).alloc (by simp; omega) _, ((Below.refl _ _).alloc (Nat.le_refl _) _).alloc (by simp) _⟩

/-- What 'ReadText' tells. -/
def RtPost (w : World) (B : Nat) (r : List Int × Int × List Int) (e : Ending) (w' : World) : Prop :=
  ∃ A c A' c', e = .returned (.tuple #[.agg #[.slice A r.1.length c, .int .i64 r.2.1], .slice A' r.2.2.length c']) ∧ Holds w' B (.slice A r.1.length c) r.1 ∧ Holds w' B (.slice A' r.2.2.length c') r.2.2 ∧ Below w.heap.size w w'

end Go.Proofs.Ytmdknedngiggdaa
end
section
/- The contract of skylightref11.spans. -/
namespace Go.Proofs.Rc
open Go.Proofs.Vm Go.Proofs.Lh
open Go.Proofs.Lm (Sp)
/-- A pair more, of the document's. -/
theorem dec_step (a j : Nat) (b1 : List Int) (e1 : Int) (bj c1 c2 : List Int) (ej f1 f2 : Int) (pj : List (Nat × Nat)) (x y aj : Nat) (sj : List Sp) (hv : vecR pairR j b1 e1 = (bj, ej, pj)) (h1 : numR maxT bj ej = (c1, f1, x)) (h2 : numR maxT c1 f1 = (c2, f2, y)) (hs : decSp a pj = (sj, aj)) :
    (vecR pairR (j + 1) b1 e1).1 = c2 ∧ (vecR pairR (j + 1) b1 e1).2.1 = f2 ∧ decSp a (vecR pairR (j + 1) b1 e1).2.2 = (sj ++ [spOf aj x y], nextA x (spOf aj x y)) := by
  rw [vec_snoc, hv]
  have hp : pairR bj ej = (c2, f2, (x, y)) := by
    unfold pairR bindR
    rw [h1]
    dsimp only
    rw [h2]
  dsimp only
  rw [hp]
  dsimp only
  rw [decSp_snoc, hs]
  exact ⟨rfl, rfl, rfl⟩
end Go.Proofs.Rc
namespace Go.Proofs.Ytmdknedngiggdaa
open Go.RowKit Go.Shelf Go.Proofs.Vm Go.Proofs.Rw Go.Proofs.Lh
open Go.Proofs.Rc (numR pairR levelR vecR decSp spOf nextA maxT)

theorem rfRead_at {w : World} {B : Nat} {A : Option Addr} {cap : Nat} {bs : List Int} (hB : B ≤ w.heap.size) (h : Holds w B (.slice A bs.length cap) bs) (hb : Rc.okB bs) (e : Int) (m : Int) (most : Nat) (hm : m = (most : Int)) :
    Calls Try.prog 37 #[.agg #[.slice A bs.length cap, .int .i64 e], .int .u64 m] w (RfPost w B (numR most bs e)) := by
  subst hm
  exact rfRead_any hB h hb e most
/-- What the document's spans keeps: the reader's box, the result's, what is told so far. -/
structure SSt (w wr : World) (B : Nat) (bj : List Int) (ej : Int) (v : Value) (L : List Sp) : Prop where
  rdr : ∃ A c, wr.heap[w.heap.size]? = some (.cells #[.slice A bj.length c, .int .i64 ej] 42) ∧ Holds wr B (.slice A bj.length c) bj
  res : wr.heap[w.heap.size + 1]? = some (.cells #[.slice none 0 0, .int .i64 0] 42)
  bel : Below w.heap.size w wr
  own : Own wr w.heap.size v L

theorem SSt.below {w wr w1 : World} {B : Nat} {bj : List Int} {ej : Int} {v : Value} {L : List Sp} (hB : B ≤ w.heap.size) (h : SSt w wr B bj ej v L) (hb : Below wr.heap.size wr w1) : SSt w w1 B bj ej v L := by
  obtain ⟨A, c, h1, h2⟩ := h.rdr
  have hs := h.bel.size
  exact ⟨⟨A, c, (hb.block _ (lt_of h1)).trans h1, h2.below (hb.mono (by omega))⟩, (hb.block _ (lt_of h.res)).trans h.res, thn h.bel hb, own_below h.own hb⟩
theorem SSt.set {w wr : World} {B : Nat} {bj b2 : List Int} {ej e2 : Int} {v : Value} {L : List Sp} {A : Option Addr} {c : Nat} (hB : B ≤ w.heap.size) (h : SSt w wr B bj ej v L) (hh : Holds wr B (.slice A b2.length c) b2) :
    SSt w ((wr.setCell ⟨w.heap.size, 0, none⟩ (.slice A b2.length c)).setCell ⟨w.heap.size, 1, none⟩ (.int .i64 e2)) B b2 e2 v L := by
  obtain ⟨A1, c1, h1, h2⟩ := h.rdr
  have g2 := grown_trans (grown_set wr w.heap.size 0 (.slice A b2.length c)) (grown_set _ w.heap.size 1 (.int .i64 e2))
  refine ⟨⟨A, c, by rw [set1 _ (set1 _ h1)]; rfl, hh.keep fun b o hb => World.cell?_of_block (a := ⟨b, o, none⟩) ((Below.heap_setCell _ _ _ _ (show b ≠ w.heap.size by omega)).trans (Below.heap_setCell _ _ _ _ (show b ≠ w.heap.size by omega)))⟩, ?_, h.bel.grown g2 h.bel.size (fun k hk => by cases hk; exact Nat.le_refl _), ?_⟩
  · exact (g2.block _ (lt_of h.res) (by simp)).trans h.res
  · refine own_keep h.own fun b hb => g2.block b (h.own.lt b hb).2 fun e => ?_
    injection e with e
    subst e
    exact row_ne h.own h1 (by decide) hb.symm
theorem SSt.app {w wr w1 : World} {B : Nat} {bj : List Int} {ej : Int} {v v' : Value} {L L' : List Sp} (hB : B ≤ w.heap.size) (h : SSt w wr B bj ej v L) (hg : wr.grownBy w1 v.ownBlock) (ho : Own w1 w.heap.size v' L') : SSt w w1 B bj ej v' L' := by
  obtain ⟨A, c, h1, h2⟩ := h.rdr
  have hs := h.bel.size
  refine ⟨⟨A, c, (hg.block _ (lt_of h1) (row_ne h.own h1 (by decide))).trans h1, h2.keep fun b o hb => World.cell?_of_block (a := ⟨b, o, none⟩) (hg.block b (by omega) fun e => ?_)⟩, (hg.block _ (lt_of h.res) (row_ne h.own h.res (by decide))).trans h.res, h.bel.grown hg hs (fun k hk => (h.own.lt k hk).1), ho⟩
  have := (h.own.lt _ e.symm).1
  omega

theorem SSt.fin {w wr : World} {B : Nat} {bj : List Int} {ej : Int} {v : Value} {L : List Sp} {A : Option Addr} {c : Nat} (hB : B ≤ w.heap.size) (h : SSt w wr B bj ej v L) (hh : Holds wr B (.slice A bj.length c) bj) (x y : Value) :
    Holds ((wr.setCell ⟨w.heap.size + 1, 0, none⟩ x).setCell ⟨w.heap.size + 1, 1, none⟩ y) B (.slice A bj.length c) bj ∧ Own ((wr.setCell ⟨w.heap.size + 1, 0, none⟩ x).setCell ⟨w.heap.size + 1, 1, none⟩ y) w.heap.size v L ∧
    Below w.heap.size w ((wr.setCell ⟨w.heap.size + 1, 0, none⟩ x).setCell ⟨w.heap.size + 1, 1, none⟩ y) := by
  have g2 := grown_trans (grown_set wr (w.heap.size + 1) 0 x) (grown_set _ (w.heap.size + 1) 1 y)
  refine ⟨hh.keep fun b o hb => World.cell?_of_block (a := ⟨b, o, none⟩) ((Below.heap_setCell _ _ _ _ (show b ≠ w.heap.size + 1 by omega)).trans (Below.heap_setCell _ _ _ _ (show b ≠ w.heap.size + 1 by omega))), ?_, h.bel.grown g2 h.bel.size (fun k hk => by cases hk; exact Nat.le_succ _)⟩
  refine own_keep h.own fun b hb => g2.block b (h.own.lt b hb).2 fun e => ?_
  injection e with e
  subst e
  exact row_ne h.own h.res (by decide) hb.symm

set_option maxRecDepth 100000 in
set_option maxHeartbeats 4000000 in
theorem spans_any {w : World} {B : Nat} {A : Option Addr} {cap : Nat} {bs : List Int} (hB : B ≤ w.heap.size) (h : Holds w B (.slice A bs.length cap) bs) (hok : Rc.okB bs) (e : Int) (a : Nat) (ha : a < 18446744073709551616) :
    Calls Try.prog 38 #[.agg #[.slice A bs.length cap, .int .i64 e], .int .u64 (a : Int)] w fun r w' => ∃ A' c' v L a', r = .returned (.tuple #[.agg #[.slice A' (levelR bs e).1.length c', .int .i64 (levelR bs e).2.1], v, .int .u64 ((a' : Nat) : Int)]) ∧ Holds w' B (.slice A' (levelR bs e).1.length c') (levelR bs e).1 ∧
      Own w' w.heap.size v L ∧ L.length ≤ 1025 ∧ a' < 18446744073709551616 ∧ ((levelR bs e).2.1 = 0 → L = (decSp a (levelR bs e).2.2).1 ∧ a' = (decSp a (levelR bs e).2.2).2) ∧ Below w.heap.size w w' := by
  obtain ⟨W0, hW0, hz0, hp2, hp4, hb0⟩ := heap_two w (.cells #[.slice A bs.length cap, .int .i64 e] 42) (.cells #[.slice none 0 0, .int .i64 0] 42)
  have hs0 : SSt w W0 B bs e (.slice none 0 0) [] := ⟨⟨A, cap, hp2, h.below (hb0.mono hB)⟩, hp4, hb0, World.ownsRow_nil _ _ _ _⟩
  have hN := rfRead_at (w := W0) (by omega) (h.below (hb0.mono hB)) hok e 1025 1025 rfl
  have ok1 := Rc.okB_num hok 1025 e
  have hn := Rc.num_le 1025 bs e
  have hlev : levelR bs e = ((vecR pairR (numR 1025 bs e).2.2 (numR 1025 bs e).1 (numR 1025 bs e).2.1).1, (vecR pairR (numR 1025 bs e).2.2 (numR 1025 bs e).1 (numR 1025 bs e).2.1).2.1, (vecR pairR (numR 1025 bs e).2.2 (numR 1025 bs e).1 (numR 1025 bs e).2.1).2.2) := rfl
  obtain ⟨⟨b1, e1, n⟩, hq⟩ : ∃ q, numR 1025 bs e = q := ⟨_, rfl⟩
  rw [hq] at hN ok1 hn hlev
  dsimp only at hN ok1 hn hlev
  rw [hlev]
  dsimp only
  have hnI : (n : Int) ≤ 1025 := by omega
  obtain ⟨x0, x1, x3, x4⟩ := box2 hp2
  have lh := lt_of hp2
  have HN := Lib.hid hN
  have OK1 := Lib.hid ok1
  have HS0 := Lib.hid hs0
  have HW0 := Lib.hid hW0
  clear hN ok1 hs0 hlev hq hp2 hp4 hb0 hz0 hW0 h hok
  go_enter Try.func38, Try.ntmps38
  go_upto_region 1 with (fail)
  rw [← HW0.out]
  clear HW0
  go_upto_region 2 with (go_at_call 37; (with_reducible refine HN.out.mono ?_); rintro e w1 ⟨A1, c1, rfl, h1, hb1⟩; dsimp only at h1 ⊢; have H1 := Lib.hid h1; have HS1 := Lib.hid (HS0.out.below hB hb1); clear h1 hb1)
  clear x0 x1 x3 x4 lh HS0 HN
  have hs2 := (HS1.out.below hB ((Below.refl _ _).alloc (Nat.le_refl _) (.cells #[.slice A1 b1.length c1, .int .i64 e1] 42))).set (e2 := e1) hB (H1.out.alloc (by have := HS1.out.bel.size; omega) (.cells #[.slice A1 b1.length c1, .int .i64 e1] 42))
  have hp7 := heap_alloc_new w1 (.cells #[.slice A1 b1.length c1, .int .i64 e1] 42)
  obtain ⟨x0, x1, -, -⟩ := box2 hp7
  have lh := lt_of hp7
  obtain ⟨Ax, cx, hrx, -⟩ := (HS1.out.below hB ((Below.refl _ _).alloc (Nat.le_refl _) (.cells #[.slice A1 b1.length c1, .int .i64 e1] 42))).rdr
  obtain ⟨y0, y1, z0, z1⟩ := box2 hrx
  have lz := lt_of hrx
  have HS2 := Lib.hid hs2
  clear hs2 hp7 hrx HS1 H1
  generalize w1.alloc (.cells #[.slice A1 b1.length c1, .int .i64 e1] 42) = W1 at *
  go_upto_region 3 with (fail)
  generalize (W1.setCell ⟨w.heap.size, 0, none⟩ (.slice A1 b1.length c1)).setCell ⟨w.heap.size, 1, none⟩ (.int .i64 e1) = W2 at *
  clear x0 x1 lh y0 y1 z0 z1 lz
  go_wp2
  go_loopw [1, 9, 10] (fun s1 s9 s10 wr => ∃ (j : Nat) (v : Value), v = s9 ∧ s10 = .int .u64 (j : Int) ∧ j ≤ n ∧ s1 = .int .u64 ((decSp a (vecR pairR j b1 e1).2.2).2 : Nat) ∧ Hid (SSt w wr B (vecR pairR j b1 e1).1 (vecR pairR j b1 e1).2.1 v (decSp a (vecR pairR j b1 e1).2.2).1)) (fun _ _ s10 _ => n - (intOf s10).toNat)
  case atStart => exact ⟨0, _, rfl, rfl, Nat.zero_le _, rfl, HS2⟩
  case round =>
    obtain ⟨j, s9, rfl, rfl, hjn, rfl, HSr⟩ := hrel
    clear HS2
    have hvl := Rc.vec_len pairR j b1 e1
    have hokj := Rc.okB_vec Rc.pair_drop OK1.out j e1
    have hstay := fun h => Rc.vec_stay' Rc.pair_bad hjn (bs := b1) (e := e1) h
    have hstep := fun bj c1 c2 ej f1 f2 pj x y aj sj => Rc.dec_step a j b1 e1 bj c1 c2 ej f1 f2 pj x y aj sj
    have hdl := Rc.decSp_lt (vecR pairR j b1 e1).2.2 a ha
    have hdlen := Rc.decSp_len (vecR pairR j b1 e1).2.2 a
    rw [hvl] at hdlen
    obtain ⟨⟨bj, ej, pj⟩, hvj⟩ : ∃ q, vecR pairR j b1 e1 = q := ⟨_, rfl⟩
    rw [hvj] at HSr hokj hdl hstay hdlen ⊢
    dsimp only at HSr hokj hdl hstay hdlen ⊢
    obtain ⟨⟨sj, aj⟩, hsj⟩ : ∃ q, decSp a pj = q := ⟨_, rfl⟩
    rw [hsj] at HSr hdl hdlen ⊢
    dsimp only at HSr hdl hdlen ⊢
    have hajI : (aj : Int) ≤ 18446744073709551615 := by omega
    have hjI : (j : Int) ≤ 1025 := by omega
    obtain ⟨Ar, cr, hrr, hhr⟩ := HSr.out.rdr
    obtain ⟨y0, y1, z0, z1⟩ := box2 hrr
    have lz := lt_of hrr
    have lB : B ≤ wr.heap.size := Nat.le_trans hB HSr.out.bel.size
    by_cases hgo : j < n ∧ ej = 0
    · obtain ⟨hlt, rfl⟩ := hgo
      have hN1 := rfRead_at lB hhr hokj 0 9223372036854775807 maxT rfl
      have hok2 := Rc.okB_num hokj maxT 0
      have hx1 := Rc.num_le maxT bj 0
      obtain ⟨⟨d1, f1, x⟩, hn1⟩ : ∃ q, numR maxT bj 0 = q := ⟨_, rfl⟩
      rw [hn1] at hN1 hok2 hx1
      dsimp only at hN1 hok2 hx1
      have hN2 := fun (W : World) (A : Option Addr) (c : Nat) (hW : B ≤ W.heap.size) (hh : Holds W B (.slice A d1.length c) d1) => rfRead_at hW hh hok2 f1 9223372036854775807 maxT rfl
      have hx2 := Rc.num_le maxT d1 f1
      obtain ⟨⟨d2, f2, y⟩, hn2⟩ : ∃ q, numR maxT d1 f1 = q := ⟨_, rfl⟩
      rw [hn2] at hN2 hx2
      dsimp only at hN2 hx2
      obtain ⟨q1, q2, q3⟩ := hstep bj d1 d2 0 f1 f2 pj x y aj sj hvj hn1 hn2 hsj
      obtain ⟨⟨F, T⟩, hFT⟩ : ∃ q, spOf aj x y = q := ⟨_, rfl⟩
      rw [hFT] at q3
      have hF : F = (aj + x) % 18446744073709551616 := (congrArg Prod.fst hFT).symm
      have hT : T = (aj + x + y) % 18446744073709551616 := (congrArg Prod.snd hFT).symm
      unfold maxT at hx1 hx2
      have hw0 : IntKind.u64.wrap ((aj : Int) + x) = (F : Int) := by rw [IntKind.wrap_u64]; omega
      have hw1 : IntKind.u64.wrap ((F : Int) + y) = (T : Int) := by rw [IntKind.wrap_u64]; omega
      have hTI : (T : Int) ≤ 18446744073709551615 := by omega
      have hFI : (F : Int) ≤ 18446744073709551615 := by omega
      have hxI : (x : Int) ≤ 9223372036854775807 := by omega
      have HN1 := Lib.hid hN1
      have HN2 := Lib.hid hN2
      have HQ1 := Lib.hid q1
      have HQ2 := Lib.hid q2
      have HQ3 := Lib.hid q3
      have HDL := Lib.hid hdlen
      have HLT := Lib.hid hlt
      have HJN := Lib.hid hjn
      clear hvl hokj hstay hstep hdl hdlen hvj hsj hhr hN1 hok2 hx1 hN2 hx2 hn1 hn2 q1 q2 q3 hFT hF hT hrr
      go_upto_region 8 with (go_at_call 37; (with_reducible refine HN1.out.mono ?_); rintro e w1 ⟨A1, c1, rfl, h1, hb1⟩; dsimp only at h1 ⊢; have HH1 := Lib.hid h1; have HT1 := Lib.hid (HSr.out.below hB hb1); clear h1 hb1 y0 y1 z0 z1 lz)
      clear HN1 HSr
      obtain ⟨oX, hoX⟩ : ∃ o, (.cells #[.slice A1 d1.length c1, .int .i64 f1] 42 : Obj) = o := ⟨_, rfl⟩
      have p11 := heap_alloc_new w1 oX
      have t1 := HT1.out.below hB ((Below.refl _ _).alloc (Nat.le_refl _) oX)
      have hd1 := HH1.out.alloc (by have := HT1.out.bel.size; omega) oX
      rw [hoX]
      generalize w1.alloc oX = Wa at *
      subst hoX
      obtain ⟨y0, y1, -, -⟩ := box2 p11
      have ly := lt_of p11
      have HD1 := Lib.hid hd1
      have T1 := Lib.hid t1
      clear p11 hd1 t1 HH1 HT1
      go_upto_region 9 with (go_at_call 37; (with_reducible refine (HN2.out _ _ _ (by have := T1.out.bel.size; omega) HD1.out).mono ?_); rintro e w2 ⟨A2, c2, rfl, h1, hb1⟩; dsimp only at h1 ⊢; have HH2 := Lib.hid h1; have HT2 := Lib.hid (T1.out.below hB hb1); clear h1 hb1 y0 y1 ly)
      clear HN2 HD1 T1
      obtain ⟨oY, hoY⟩ : ∃ o, (.cells #[.slice A2 d2.length c2, .int .i64 f2] 42 : Obj) = o := ⟨_, rfl⟩
      have p13 := heap_alloc_new w2 oY
      have t2 := HT2.out.below hB ((Below.refl _ _).alloc (Nat.le_refl _) oY)
      have hd2 := HH2.out.alloc (by have := HT2.out.bel.size; omega) oY
      rw [hoY]
      generalize w2.alloc oY = Wb at *
      subst hoY
      obtain ⟨y0, y1, -, -⟩ := box2 p13
      have ly := lt_of p13
      obtain ⟨Ax, cx, hrx, -⟩ := t2.rdr
      obtain ⟨v0, v1, z0, z1⟩ := box2 hrx
      have lz := lt_of hrx
      have t3 := t2.set (e2 := f2) hB hd2
      have T3 := Lib.hid t3
      clear p13 hd2 t2 hrx HH2 HT2 t3
      go_upto_region 10 with (fail)
      generalize (Wb.setCell ⟨w.heap.size, 0, none⟩ (.slice A2 d2.length c2)).setCell ⟨w.heap.size, 1, none⟩ (.int .i64 f2) = Wc at *
      clear y0 y1 ly v0 v1 z0 z1 lz
      go_upto_region 11 with (fail)
      have p15 := heap_alloc_new Wc (.cells #[.int .u64 (F : Int), .int .u64 (T : Int)] 73)
      have t4 := T3.out.below hB ((Below.refl _ _).alloc (Nat.le_refl _) (.cells #[.int .u64 (F : Int), .int .u64 (T : Int)] 73))
      have hob : ∀ b, s9.ownBlock = some b → b < Wc.heap.size := fun b hb => (T3.out.own.lt b hb).2
      generalize Wc.alloc (.cells #[.int .u64 (F : Int), .int .u64 (T : Int)] 73) = Wd at *
      obtain ⟨ps, hps⟩ : ∃ p, Wc.heap.size = p := ⟨_, rfl⟩
      rw [hps] at p15 hob ⊢
      obtain ⟨y0, y1, -, -⟩ := box2 p15
      have ly := lt_of p15
      have P15 := Lib.hid p15
      have T4 := Lib.hid t4
      have HOB := Lib.hid hob
      clear p15 t4 hob hps T3
      have hsl : sj.length ≤ 1025 := by have := HDL.out; omega
      go_upto_region 12 with (at_builtin; refine Go.Proofs.Rw.wpList_app 73 _ 16 info_sp Try.underlying65 rfl (by decide) (by decide) _ rfl _ _ rfl w.heap.size _ _ sj [(F, T)] _ rfl (T4.out.below hB ((Below.refl _ _).alloc (Nat.le_refl _) _)).own rfl (lit1 _ _ rfl F T) (sp_one _) (by simp; omega) (by have := T4.out.bel.size; simp; omega) ?_; intro v' w3 ho3 hg3; have T5 := Lib.hid ((T4.out.below hB ((Below.refl _ _).alloc (Nat.le_refl _) (.cells #[.int .u64 (F : Int), .int .u64 (T : Int)] 73))).app hB hg3 ho3); have P16 := Lib.hid ((hg3.block ps (Nat.lt_of_lt_of_le (lt_of P15.out) (by simp)) (fun e => by have := HOB.out ps e.symm; omega)).trans ((Below.heap_alloc _ _ _ (lt_of P15.out)).trans P15.out)); clear ho3 hg3)
      clear y0 y1 ly T4 P15 HOB
      obtain ⟨y0, y1, -, -⟩ := box2 P16.out
      have ly := lt_of P16.out
      go_upto_region 13 with (fail)
      have hnx : nextA x (F, T) = if T < F ∨ F < x ∨ 9223372036854775807 < T then 9223372036854775808 else T := rfl
      by_cases k1 : T < F
      · have d1 : decide (T < F) = true := by simpa using k1
        rw [if_pos (.inl k1)] at hnx
        have HNX := Lib.hid hnx
        clear hnx
        go_wp2
        refine ⟨⟨j + 1, v', rfl, by go_num, HLT.out, ?_, Lib.hid ?_⟩, by simp [intOf]; omega⟩
        · rw [HQ3.out]
          dsimp only
          rw [HNX.out]
          try rfl
        · rw [HQ1.out, HQ2.out, HQ3.out]
          exact T5.out
      · have d1 : decide (T < F) = false := by simpa using k1
        by_cases k2 : F < x
        · have d2 : decide (F < x) = true := by simpa using k2
          rw [if_pos (.inr (.inl k2))] at hnx
          have HNX := Lib.hid hnx
          clear hnx
          go_wp2
          refine ⟨⟨j + 1, v', rfl, by go_num, HLT.out, ?_, Lib.hid ?_⟩, by simp [intOf]; omega⟩
          · rw [HQ3.out]
            dsimp only
            rw [HNX.out]
            try rfl
          · rw [HQ1.out, HQ2.out, HQ3.out]
            exact T5.out
        · have d2 : decide (F < x) = false := by simpa using k2
          by_cases k3 : 9223372036854775807 < T
          · have d3 : decide ((9223372036854775807 : Int) < (T : Int)) = true := by rw [decide_eq_true_iff]; omega
            rw [if_pos (.inr (.inr k3))] at hnx
            have HNX := Lib.hid hnx
            clear hnx
            go_wp2
            refine ⟨⟨j + 1, v', rfl, by go_num, HLT.out, ?_, Lib.hid ?_⟩, by simp [intOf]; omega⟩
            · rw [HQ3.out]
              dsimp only
              rw [HNX.out]
              try rfl
            · rw [HQ1.out, HQ2.out, HQ3.out]
              exact T5.out
          · have d3 : decide ((9223372036854775807 : Int) < (T : Int)) = false := by rw [decide_eq_false_iff_not]; omega
            rw [if_neg (by rintro (k | k | k) <;> omega)] at hnx
            have HNX := Lib.hid hnx
            clear hnx
            go_wp2
            refine ⟨⟨j + 1, v', rfl, by go_num, HLT.out, ?_, Lib.hid ?_⟩, by simp [intOf]; omega⟩
            · rw [HQ3.out]
              dsimp only
              rw [HNX.out]
              try rfl
            · rw [HQ1.out, HQ2.out, HQ3.out]
              exact T5.out
    · have hfin : (vecR pairR n b1 e1).1 = bj ∧ (vecR pairR n b1 e1).2.1 = ej ∧ (ej = 0 → sj = (decSp a (vecR pairR n b1 e1).2.2).1 ∧ aj = (decSp a (vecR pairR n b1 e1).2.2).2) := by
        by_cases hlt : j < n
        · have he : ej ≠ 0 := fun e => hgo ⟨hlt, e⟩
          obtain ⟨s1, s2⟩ := hstay he
          exact ⟨s1, s2, fun e => absurd e he⟩
        · have e : j = n := by omega
          subst e
          rw [hvj]
          dsimp only
          rw [hsj]
          exact ⟨rfl, rfl, fun _ => ⟨rfl, rfl⟩⟩
      obtain ⟨m1, m2, m3⟩ := HSr.out.fin hB hhr (.slice Ar bj.length cr) (.int .i64 ej)
      obtain ⟨u0, u1, u2, u3⟩ := box2 HSr.out.res
      have lu := lt_of HSr.out.res
      have hsl : sj.length ≤ 1025 := by omega
      have M1 := Lib.hid m1
      have M2 := Lib.hid m2
      have M3 := Lib.hid m3
      have HFIN := Lib.hid hfin
      have HSL := Lib.hid hsl
      have HAJ := Lib.hid hdl
      have hr4 : ((wr.setCell ⟨w.heap.size + 1, 0, none⟩ (.slice Ar bj.length cr)).setCell ⟨w.heap.size + 1, 1, none⟩ (.int .i64 ej)).heap[w.heap.size + 1]? = some (.cells #[.slice Ar bj.length cr, .int .i64 ej] 42) := by
        rw [set1 _ (set1 _ HSr.out.res)]
        rfl
      obtain ⟨r0, r1, -, -⟩ := box2 hr4
      have R0 := Lib.hid r0
      have R1 := Lib.hid r1
      clear m1 m2 m3 hfin hsl r0 r1 hr4 hvl hokj hstay hstep hdl hdlen hvj hsj hhr hrr
      have fin : ∀ W, W = (wr.setCell ⟨w.heap.size + 1, 0, none⟩ (.slice Ar bj.length cr)).setCell ⟨w.heap.size + 1, 1, none⟩ (.int .i64 ej) → ∃ A' c' v L a', Ending.returned (.tuple #[.agg #[.slice Ar bj.length cr, .int .i64 ej], s9, .int .u64 (aj : Int)]) = .returned (.tuple #[.agg #[.slice A' (vecR pairR n b1 e1).1.length c', .int .i64 (vecR pairR n b1 e1).2.1], v, .int .u64 ((a' : Nat) : Int)]) ∧ Holds W B (.slice A' (vecR pairR n b1 e1).1.length c') (vecR pairR n b1 e1).1 ∧
          Own W w.heap.size v L ∧ L.length ≤ 1025 ∧ a' < 18446744073709551616 ∧ ((vecR pairR n b1 e1).2.1 = 0 → L = (decSp a (vecR pairR n b1 e1).2.2).1 ∧ a' = (decSp a (vecR pairR n b1 e1).2.2).2) ∧ Below w.heap.size w W := by
        rintro W rfl
        obtain ⟨z1, z2, z3⟩ := HFIN.out
        rw [z1, z2]
        exact ⟨Ar, cr, s9, sj, aj, rfl, M1.out, M2.out, HSL.out, HAJ.out, z3, M3.out⟩
      have FIN := Lib.hid fin
      clear fin M1 M2 M3
      by_cases hlt : j < n
      · have he : ej ≠ 0 := fun e => hgo ⟨hlt, e⟩
        have he' : (ej == 0) = false := by simpa using he
        clear hgo
        go_wp2
        refine bodyPost_ret (v := .tuple #[.agg #[.slice Ar bj.length cr, .int .i64 ej], s9, .int .u64 (aj : Int)]) (by simp [results, Try.results38, go_sem, R0.out, R1.out]) rfl ?_
        exact FIN.out _ rfl
      · have hlt' : decide ((j : Int) < (n : Int)) = false := by rw [decide_eq_false_iff_not]; omega
        clear hgo
        go_wp2
        refine bodyPost_ret (v := .tuple #[.agg #[.slice Ar bj.length cr, .int .i64 ej], s9, .int .u64 (aj : Int)]) (by simp [results, Try.results38, go_sem, R0.out, R1.out]) rfl ?_
        exact FIN.out _ rfl
end Go.Proofs.Ytmdknedngiggdaa
end
section
/- The contract of skylightref11.turned; and what the document's Take keeps. -/
namespace Go.Proofs.Rw
open Go Go.RowKit
/-- The level i: its slice's cell, what it holds, and the blocks' type. -/
theorem Levs.atH {w : World} {B : Nat} {ls : List (List Sp)} {A : Option Addr} {len cap : Nat} (h : Levs w B (.slice A len cap) ls) (h0 : 0 < ls.length) : ∃ b off, A = some ⟨b, off, none⟩ ∧ b < B ∧ len = ls.length ∧
    ∀ i (hi : i < ls.length), ∃ Ai ci, w.cell? ⟨b, off + i, none⟩ = some (.slice Ai ls[i].length ci) ∧ Lies spL w B (.slice Ai ls[i].length ci) ls[i] ∧ (ls[i] ≠ [] → Held w 73 (.slice Ai ls[i].length ci)) := by
  obtain ⟨_, vs, h1, h2, _, h3⟩ := h
  obtain ⟨b, off, hA, hb, hl, hc⟩ := h1.addr (by omega)
  refine ⟨b, off, hA, hb, by omega, fun i hi => ?_⟩
  have hiv : i < vs.length := by omega
  obtain ⟨hL, hH⟩ := h3 i vs[i] ls[i] (List.getElem?_eq_getElem hiv) (List.getElem?_eq_getElem hi)
  obtain ⟨Ai, ci, hu, h4, h5, h6⟩ := hL.form
  rw [hu] at hH
  refine ⟨Ai, ci, ?_, h6, hH⟩
  have := hc i hiv 0 vs[i] rfl
  rw [show i * valL.size + 0 = i by show i * 1 + 0 = i; omega, hu] at this
  exact this
end Go.Proofs.Rw
namespace Go.Proofs.Ytmdknedngiggdaa
open Go.RowKit Go.Shelf Go.Proofs.Vm Go.Proofs.Rw Go.Proofs.Lh

set_option maxRecDepth 100000 in
set_option maxHeartbeats 2000000 in
theorem turn11_any (ls : Lv) (hl : ls.length ≤ 1000) (w : World) (A : Option Addr) (c : Nat) (h : Levs w w.heap.size (.slice A ls.length c) ls) :
    Calls Try.prog 39 #[.slice A ls.length c] w fun e w' => ∃ A' c', e = .returned (.slice A' ls.length c') ∧ Levs w' w'.heap.size (.slice A' ls.length c') ls.reverse ∧ Below w.heap.size w w' := by
  obtain ⟨N, hN⟩ : ∃ N, ls.length = N := ⟨_, rfl⟩
  rw [hN] at h hl ⊢
  have hNI : (N : Int) ≤ 1000 := by omega
  have HH := Lib.hid h
  have HN := Lib.hid hN
  clear h hN
  go_enter Try.func39, Try.ntmps39
  go_wp2
  go_loopw [3, 4] (fun s3 s4 wr => ∃ (m : Nat) (v : Value), v = s3 ∧ s4 = .int .i64 ((m : Int) - 1) ∧ m ≤ N ∧ Hid (OwnLevs 65 (fun _ => True) wr w.heap.size v (ls.drop m).reverse) ∧ Hid (Below w.heap.size w wr)) (fun _ s4 _ => (intOf s4 + 1).toNat)
  case atStart =>
    refine ⟨N, _, rfl, by go_num, Nat.le_refl _, Lib.hid ?_, Lib.hid (Below.refl _ _)⟩
    rw [← HN.out, List.drop_length]
    exact OwnLevs.nil _ _ _ _
  case round =>
    obtain ⟨m1, v, rfl, rfl, hmN, HO, HB⟩ := hrel
    by_cases hlt : 0 < m1
    · obtain ⟨m, rfl⟩ : ∃ m, m1 = m + 1 := ⟨m1 - 1, by omega⟩
      have hml : m < ls.length := by rw [HN.out]; omega
      have hLr := HH.out.grow HB.out
      obtain ⟨b, off, rfl, hb, -, hc⟩ := hLr.atH (by omega)
      obtain ⟨Ai, ci, q0, hLi, hHi⟩ := hc m hml
      have hrev : (ls.drop m).reverse = (ls.drop (m + 1)).reverse ++ [ls[m]] := by
        rw [← List.getElem_cons_drop hml, List.reverse_cons]
      have hdl : (ls.drop (m + 1)).reverse.length ≤ 1000 := by rw [List.length_reverse, List.length_drop]; have := HN.out; omega
      obtain ⟨D, hD⟩ : ∃ D, (ls.drop (m + 1)).reverse = D := ⟨_, rfl⟩
      rw [hD] at HO hrev hdl
      obtain ⟨L, hL⟩ : ∃ L, ls[m] = L := ⟨_, rfl⟩
      rw [hL] at q0 hLi hHi hrev
      obtain ⟨mm, hmm⟩ : ∃ m, L.length = m := ⟨_, rfl⟩
      rw [hmm] at q0 hLi hHi
      have hiI : ((m + 1 : Nat) : Int) - 1 = (m : Int) := by omega
      rw [hiI]
      have hub : L ≠ [] → ∀ b, (Value.slice Ai mm ci).ownBlock = some b → True ∧ v.ownBlock ≠ some b ∧ Ty wr 73 b := by
        intro hn b hb
        have hty := hHi hn b hb
        refine ⟨trivial, fun e => ?_, hty⟩
        obtain ⟨vs, o1, -⟩ := HO.out
        exact (own_tyR o1 e).ne hty (by decide) rfl
      have hbase : w.heap.size ≤ wr.heap.size := HB.out.size
      have HLI := Lib.hid hLi
      have HREV := Lib.hid hrev
      have HUB := Lib.hid hub
      have HDL := Lib.hid hdl
      have HBASE := Lib.hid hbase
      have hmN' : m < N := by omega
      clear hc hLi hHi hrev hub hbase hmm hL hD hiI hlt hml hLr hdl hmN
      go_wp2_with (at_builtin; refine wpList_lev _ 24 info_row Try.underlying22 rfl (by decide) wr rfl _ _ rfl w.heap.size v (.slice Ai mm ci) D L rfl HO.out wr.heap.size rfl rfl HLI.out HUB.out (by have := HDL.out; omega) HBASE.out ?_; intro v' w3 ho3 hq3 hg3; have HO3 := Lib.hid ho3; have HB3 := Lib.hid ((HB.out.alloc HBASE.out (.cells #[.slice Ai mm ci] 65)).grown hg3 (by have := HBASE.out; simp; omega) (fun k hk => (HO.out.lt k hk).1)); clear ho3 hg3 hq3)
      refine ⟨⟨m, v', rfl, by go_num, by omega, Lib.hid ?_, HB3⟩, by simp [intOf] <;> omega⟩
      rw [HREV.out]
      exact HO3.out
    · have e : m1 = 0 := by omega
      subst e
      rw [show ((0 : Nat) : Int) - 1 = -1 from rfl]
      rw [List.drop_zero] at HO
      clear hlt
      go_wp2
      go_ret
      have hlev := HO.out.levs
      obtain ⟨A', c', hv, -, -, hL⟩ := hlev.form
      rw [List.length_reverse, HN.out] at hv hL
      subst hv
      exact ⟨A', c', rfl, hL, HB.out⟩
end Go.Proofs.Ytmdknedngiggdaa
end
section
/- The contract of record.read. -/
namespace Go.Proofs.Rc
open Go.Proofs.Vm Go.Proofs.Lh
open Go.Proofs.Lm (Sp)
/-- What is read, piece by piece. -/
theorem raw_parts (bs b1 b2 b3 : List Int) (e e1 e2 e3 : Int) (k g n : Nat) (h1 : numR 1024 bs e = (b1, e1, k)) (h2 : numR 4 b1 e1 = (b2, e2, g)) (h3 : numR 52 b2 e2 = (b3, e3, n)) :
    (rawR bs e).1 = (vecR levelR n b3 e3).1 ∧ (rawR bs e).2.1 = (vecR levelR n b3 e3).2.1 ∧ (rawR bs e).2.2 = (k, g, (vecR levelR n b3 e3).2.2) := by
  unfold rawR bindR listR mapR bindR
  rw [h1]
  dsimp only
  rw [h2]
  dsimp only
  rw [h3]
  exact ⟨rfl, rfl, rfl⟩
theorem lev_step (j : Nat) (b1 bj : List Int) (e1 ej : Int) (pj : List (List (Nat × Nat))) (sj : List (List Sp)) (aj : Nat) (hv : vecR levelR j b1 e1 = (bj, ej, pj)) (hs : satLv 0 pj = (sj, aj)) :
    (vecR levelR (j + 1) b1 e1).1 = (levelR bj ej).1 ∧ (vecR levelR (j + 1) b1 e1).2.1 = (levelR bj ej).2.1 ∧ satLv 0 (vecR levelR (j + 1) b1 e1).2.2 = (sj ++ [(satSp aj (levelR bj ej).2.2).1], (satSp aj (levelR bj ej).2.2).2) := by
  rw [vec_snoc, hv]
  dsimp only
  rw [satLv_snoc, hs]
  exact ⟨rfl, rfl, rfl⟩
end Go.Proofs.Rc
namespace Go.Proofs.Ytmdknedngiggdaa
open Go.RowKit Go.Shelf Go.Proofs.Vm Go.Proofs.Rw Go.Proofs.Lh
open Go.Proofs.Rc (numR pairR levelR vecR rawR satT satSp satLv satM maxT rowP)

set_option maxRecDepth 100000 in
set_option maxHeartbeats 4000000 in
theorem read_any {w : World} {rb : Nat} {bs : List Int} {e : Int} (h : Rd w rb bs e) (hok : Rc.okB bs) :
    Calls Try.prog 35 #[.pointer (some ⟨rb, 0, none⟩)] w fun r w' => ∃ g N, r = .returned (hv (satM (rawR bs e).2.2).1 (satM (rawR bs e).2.2).2.1 (.slice (some ⟨g, 0, none⟩) N N)) ∧ N = (satM (rawR bs e).2.2).2.2.length ∧
      Levs w' w'.heap.size (.slice (some ⟨g, 0, none⟩) N N) (satM (rawR bs e).2.2).2.2 ∧ Rd w' rb (rawR bs e).1 (rawR bs e).2.1 ∧ w.grownBy w' (some rb) := by
  obtain ⟨i0, hi, hz0, hz1, hz2⟩ := info_parts info_rowS
  have hrb := h.lt
  have hp1 := fun b1 b2 b3 e1 e2 e3 k g n => Rc.raw_parts bs b1 b2 b3 e e1 e2 e3 k g n
  have hal := (Below.refl w.heap.size w).alloc (Nat.le_refl _) (.cells #[.int .i64 0, .int .i64 0, .slice none 0 0] 30)
  have hrs := heap_alloc_new w (.cells #[.int .i64 0, .int .i64 0, .slice none 0 0] 30)
  obtain ⟨W0, hW0⟩ : ∃ W, w.alloc (.cells #[.int .i64 0, .int .i64 0, .slice none 0 0] 30) = W := ⟨_, rfl⟩
  rw [hW0] at hal hrs
  have hr0 : Rd W0 rb bs e := h.below hal hrb
  have hz : w.heap.size < W0.heap.size := lt_of hrs
  have hN1 := rnumF_at hr0 hok 1024 1024 rfl
  rw [show rNum bs e 1024 = numR 1024 bs e from rfl] at hN1
  have ok1 := Rc.okB_num hok 1024 e
  have l1 := Rc.num_le 1024 bs e
  obtain ⟨⟨b1, e1, k⟩, hq1⟩ : ∃ q, numR 1024 bs e = q := ⟨_, rfl⟩
  rw [hq1] at hN1 ok1 l1
  dsimp only at hN1 ok1 l1
  have hN2 := fun W (hW : Rd W rb b1 e1) => rnumF_at hW ok1 4 4 rfl
  rw [show rNum b1 e1 4 = numR 4 b1 e1 from rfl] at hN2
  have ok2 := Rc.okB_num ok1 4 e1
  have l2 := Rc.num_le 4 b1 e1
  obtain ⟨⟨b2, e2, gn⟩, hq2⟩ : ∃ q, numR 4 b1 e1 = q := ⟨_, rfl⟩
  rw [hq2] at hN2 ok2 l2
  dsimp only at hN2 ok2 l2
  have hN3 := fun W (hW : Rd W rb b2 e2) => rnumF_at hW ok2 52 52 rfl
  rw [show rNum b2 e2 52 = numR 52 b2 e2 from rfl] at hN3
  have ok3 := Rc.okB_num ok2 52 e2
  have l3 := Rc.num_le 52 b2 e2
  obtain ⟨⟨b3, e3, N⟩, hq3⟩ : ∃ q, numR 52 b2 e2 = q := ⟨_, rfl⟩
  rw [hq3] at hN3 ok3 l3
  dsimp only at hN3 ok3 l3
  obtain ⟨p1, p2, p3⟩ := hp1 b1 b2 b3 e1 e2 e3 k gn N hq1 hq2 hq3
  rw [p1, p2, p3]
  have hsat : satM (k, gn, (vecR levelR N b3 e3).2.2) = ((k : Int), (gn : Int), (satLv 0 (vecR levelR N b3 e3).2.2).1.reverse) := rfl
  rw [hsat]
  dsimp only
  have kI : (k : Int) ≤ 1024 := by omega
  have gI : (gn : Int) ≤ 4 := by omega
  have nI : (N : Int) ≤ 52 := by omega
  have HW0 := Lib.hid hW0
  have HAL := Lib.hid hal
  have HRS := Lib.hid hrs
  have HN1 := Lib.hid hN1
  have HN2 := Lib.hid hN2
  have HN3 := Lib.hid hN3
  have OK3 := Lib.hid ok3
  have HZ := Lib.hid hz
  clear h hok hp1 hal hrs hW0 hr0 hz hN1 hN2 hN3 ok1 ok2 ok3 p1 p2 p3 hsat hq1 hq2 hq3 l1 l2 l3
  go_enter Try.func35, Try.ntmps35
  go_upto_region 1 with (fail)
  rw [HW0.out]
  clear HW0
  go_upto_region 2 with (go_at_call 54; (with_reducible refine HN1.out.mono ?_); rintro e w1 ⟨rfl, hr1, hg1⟩; have HR1 := Lib.hid hr1; have HG1 := Lib.hid hg1; clear hr1 hg1)
  go_upto_region 3 with (go_at_call 54; (with_reducible refine (HN2.out _ HR1.out).mono ?_); rintro e w2 ⟨rfl, hr1, hg1⟩; have HR2 := Lib.hid hr1; have HG2 := Lib.hid (grown_trans HG1.out hg1); clear hr1 hg1)
  go_upto_region 4 with (go_at_call 54; (with_reducible refine (HN3.out _ HR2.out).mono ?_); rintro e w3 ⟨rfl, hr1, hg1⟩; have HR3 := Lib.hid hr1; have HG3 := Lib.hid (grown_trans HG2.out hg1); clear hr1 hg1)
  clear HR1 HR2 HG1 HG2 HN1 HN2 HN3
  go_upto_region 5 with (at_make; refine wpList_make_full _ rfl _ _ 22 rfl w3.heap.size 65 i0 _ 1 Try.underlying22 hi hz0 hz1 .i64 .i64 _ _ N rfl rfl rfl rfl (by rw [hz2]; omega) (by unfold maxLen; omega) (Nat.le_refl _) ?_; intro wm hownm hgm)
  have hwm : Below w3.heap.size w3 wm := ⟨hgm.os, hgm.tape, hgm.output, hgm.size, fun i hi => hgm.block i hi (by simp)⟩
  have hown := OwnLevs.zeros hownm
  have hbh := (Below.refl wm.heap.size wm).alloc (Nat.le_refl _) (.cells #[.int .i64 (k : Int), .int .i64 (gn : Int), .slice (some ⟨w3.heap.size, 0, none⟩) N N] 30)
  have hph := heap_alloc_new wm (.cells #[.int .i64 (k : Int), .int .i64 (gn : Int), .slice (some ⟨w3.heap.size, 0, none⟩) N N] 30)
  have hgl : w3.heap.size < wm.heap.size := (hown.lt _ rfl).2
  generalize wm.alloc (.cells #[.int .i64 (k : Int), .int .i64 (gn : Int), .slice (some ⟨w3.heap.size, 0, none⟩) N N] 30) = Wh at *
  have hownh := hown.grow hbh
  have hb3 := thn hwm hbh
  have hrdh : Rd Wh rb b3 e3 := HR3.out.below hb3 HR3.out.lt
  have hrvh : Wh.heap[w.heap.size]? = some (.cells #[.int .i64 0, .int .i64 0, .slice none 0 0] 30) := by
    have hs3 := HG3.out.size
    have := HZ.out
    rw [hb3.block _ (by omega), HG3.out.block _ (by omega) (by simp; omega)]
    exact HRS.out
  obtain ⟨Wt, hWt⟩ : ∃ W, (Wh.alloc (.cells #[.pointer (some ⟨rb, 0, none⟩)] 38)).alloc (.cells #[.int .u64 0] 61) = W := ⟨_, rfl⟩
  obtain ⟨Wt', hWt', hszt, hqt, hlt, hbt⟩ := heap_two Wh (.cells #[.pointer (some ⟨rb, 0, none⟩)] 38) (.cells #[.int .u64 0] 61)
  rw [hWt] at hWt'
  subst hWt'
  have hst : RSt Wt' rb (Wh.heap.size + 1) Wh.heap.size b3 e3 0 := ⟨hrdh.below hbt hrdh.lt, hlt, hqt, by have := hrdh.lt; omega, hrdh.lt, OK3.out, by omega⟩
  have hownt := hownh.grow hbt
  have hpt := (hbt.block _ (lt_of hph)).trans hph
  have hrvt := (hbt.block _ (lt_of hrvh)).trans hrvh
  have hkt : Keep2 rb (Wh.heap.size + 1) w Wt' := (((Keep2.of_below HAL.out).trans (Keep2.of_grown HG3.out)).trans (Keep2.of_below hb3)).trans (Keep2.of_below hbt)
  have hsz1 := HG3.out.size
  have hsz2 := HZ.out
  have hsz3 := lt_of hph
  obtain ⟨g, hg⟩ : ∃ g, w3.heap.size = g := ⟨_, rfl⟩
  obtain ⟨hb, hhb⟩ : ∃ b, wm.heap.size = b := ⟨_, rfl⟩
  obtain ⟨lb, hlbe⟩ : ∃ b, Wh.heap.size + 1 = b := ⟨_, rfl⟩
  obtain ⟨qb, hqbe⟩ : ∃ b, Wh.heap.size = b := ⟨_, rfl⟩
  rw [hg] at hownt hpt hgl hsz1 ⊢
  rw [hhb] at hpt hgl hsz3 ⊢
  have hRT := ticksR_any rb Wh
  rw [hWt, hlbe, hqbe] at hRT
  rw [hlbe] at hst hkt
  rw [hqbe] at hst hsz3 hlbe
  have hg1 : rb < g := by omega
  have hg2 : g ≠ lb := by omega
  have hg3 : g ≠ qb := by omega
  have hv1 : hb ≠ rb := by omega
  have hv2 : hb ≠ lb := by omega
  have hv3 : w.heap.size ≠ rb := by omega
  have hv4 : w.heap.size ≠ lb := by omega
  have hlw : w.heap.size ≤ lb := by omega
  have hgw : w.heap.size ≤ g := by omega
  have hv5 : hb ≠ g := by omega
  have hv6 : w.heap.size ≠ g := by omega
  have HRT := Lib.hid hRT
  have HST := Lib.hid hst
  have HOT := Lib.hid hownt
  have HPT := Lib.hid hpt
  have HRV := Lib.hid hrvt
  have HKT := Lib.hid hkt
  have HNE := Lib.hid (show rb < g ∧ g ≠ lb ∧ g ≠ qb ∧ hb ≠ rb ∧ hb ≠ lb ∧ w.heap.size ≠ rb ∧ w.heap.size ≠ lb ∧ w.heap.size ≤ lb ∧ w.heap.size ≤ g ∧ hb ≠ g ∧ w.heap.size ≠ g from ⟨hg1, hg2, hg3, hv1, hv2, hv3, hv4, hlw, hgw, hv5, hv6⟩)
  clear hRT hst hownt hpt hrvt hkt hg1 hg2 hg3 hv1 hv2 hv3 hv4 hlw hgw hv5 hv6 hsz1 hsz2 hsz3 hg hhb hlbe hqbe hgl hb3 hbh hbt hownh hown hownm hph hrdh hrvh hwm hgm hszt hqt hlt hWt HAL HRS HZ HG3 HR3 OK3 hi hz0 hz1 hz2
  go_upto_region 6 with (go_at_call 55; (with_reducible refine HRT.out.mono ?_); rintro e wt ⟨rfl, rfl⟩)
  obtain ⟨hg1, hg2, hg3, hv1, hv2, hv3, hv4, hlw, hgw, hv5, hv6⟩ := HNE.out
  have NG1 := Lib.hid hg1
  have NG2 := Lib.hid hg2
  have NG3 := Lib.hid hg3
  clear hg1 hg2 hg3 hv1 hv2 hv3 hv4 hlw hgw hv5 hv6
  go_wp2
  go_loopw [26] (fun s26 wr => ∃ i : Nat, s26 = .int .i64 (i : Int) ∧ i ≤ N ∧ Hid (RSt wr rb lb qb (vecR levelR i b3 e3).1 (vecR levelR i b3 e3).2.1 (satLv 0 (vecR levelR i b3 e3).2.2).2) ∧ Hid (OwnLevs 65 (fun _ => True) wr g (.slice (some ⟨g, 0, none⟩) N N) (List.replicate (N - i) [] ++ (satLv 0 (vecR levelR i b3 e3).2.2).1.reverse)) ∧
    Hid (wr.heap[hb]? = some (.cells #[.int .i64 (k : Int), .int .i64 (gn : Int), .slice (some ⟨g, 0, none⟩) N N] 30)) ∧ Hid (wr.heap[w.heap.size]? = some (.cells #[.int .i64 0, .int .i64 0, .slice none 0 0] 30)) ∧ Hid (Keep2 rb lb w wr)) (fun s26 _ => N - (intOf s26).toNat)
  case atStart =>
    refine ⟨0, rfl, Nat.zero_le _, HST, Lib.hid ?_, HPT, HRV, HKT⟩
    have e : (satLv 0 (vecR levelR 0 b3 e3).2.2).1.reverse = [] := rfl
    rw [e, List.append_nil]
    exact HOT.out
  case round =>
    obtain ⟨i, rfl, hiN, HSr, HOr, HPr, HVr, HKr⟩ := hrel
    clear HST HOT HPT HRV HKT
    have hvl := Rc.vec_len levelR i b3 e3
    by_cases hlt : i < N
    · obtain ⟨m, hm⟩ : ∃ m, m + 1 + i = N := ⟨N - 1 - i, by omega⟩
      have hstep := fun bj ej pj sj aj => Rc.lev_step i b3 bj e3 ej pj sj aj
      obtain ⟨⟨bi, ei, pi⟩, hvi⟩ : ∃ q, vecR levelR i b3 e3 = q := ⟨_, rfl⟩
      obtain ⟨⟨si, ai⟩, hsi⟩ : ∃ q, satLv 0 pi = q := ⟨_, rfl⟩
      rw [hvi] at HSr HOr
      dsimp only at HSr HOr
      rw [hsi] at HSr HOr
      dsimp only at HSr HOr
      obtain ⟨q1, q2, q3⟩ := hstep bi ei pi si ai hvi hsi
      have hBK := bucketsR_any (show RSt wr.drew rb lb qb bi ei ai from ⟨HSr.out.rd, HSr.out.last, HSr.out.box, HSr.out.h1, HSr.out.h2, HSr.out.ok, HSr.out.le⟩)
      obtain ⟨⟨b', e', q'⟩, hlq⟩ : ∃ q, levelR bi ei = q := ⟨_, rfl⟩
      rw [hlq] at hBK q1 q2 q3
      dsimp only at hBK q1 q2 q3
      obtain ⟨⟨L, a'⟩, hsq⟩ : ∃ q, satSp ai q' = q := ⟨_, rfl⟩
      rw [hsq] at hBK q3
      dsimp only at hBK q3
      have hset := Rc.rep_set ([] : List (Nat × Nat)) L si.reverse m
      rw [show N - i = m + 1 by omega] at HOr
      have hFL := fun W => fromLast_any N i m hm (by omega) W
      have hmN : m < N := by omega
      obtain ⟨x0, x1, x2⟩ := box3 HPr.out
      have lh := lt_of HPr.out
      have keep : ∀ W2, Keep2 rb lb wr.drew W2 → W2.heap[hb]? = some (.cells #[.int .i64 (k : Int), .int .i64 (gn : Int), .slice (some ⟨g, 0, none⟩) N N] 30) ∧ OwnLevs 65 (fun _ => True) W2 g (.slice (some ⟨g, 0, none⟩) N N) (List.replicate (m + 1) [] ++ si.reverse) ∧ W2.heap[w.heap.size]? = some (.cells #[.int .i64 0, .int .i64 0, .slice none 0 0] 30) ∧ Keep2 rb lb w W2 := by
        intro W2 hk
        obtain ⟨-, -, -, hv1, hv2, hv3, hv4, -⟩ := HNE.out
        refine ⟨(hk.block hb lh hv1 hv2).trans HPr.out, OwnLevs.keepTy HOr.out hk.size fun b hb => ?_, (hk.block _ (lt_of HVr.out) hv3 hv4).trans HVr.out, HKr.out.trans ⟨hk.os, hk.tape, hk.output, hk.size, hk.block⟩⟩
        obtain ⟨vr, hrd, -⟩ := HSr.out.rd
        have hla := HSr.out.last
        have hbl : b < wr.heap.size := by
          rcases hb with hb | hb
          · exact hb.lt
          · exact hb.lt
        refine hk.block b hbl ?_ ?_
        · rintro rfl
          rcases hb with ⟨cs, fr, hb⟩ | ⟨cs, fr, hb⟩ <;> rw [hrd] at hb <;> injection hb with hb <;> injection hb with _ hb _ <;> exact absurd hb (by decide)
        · rintro rfl
          unfold Boxed at hla
          rcases hb with ⟨cs, fr, hb⟩ | ⟨cs, fr, hb⟩ <;> rw [hla] at hb <;> injection hb with hb <;> injection hb with _ hb _ <;> exact absurd hb (by decide)
      have KEEP := Lib.hid keep
      have HBK := Lib.hid hBK
      have HFL := Lib.hid hFL
      have HQ1 := Lib.hid q1
      have HQ2 := Lib.hid q2
      have HQ3 := Lib.hid q3
      have HSET := Lib.hid hset
      have HM := Lib.hid hm
      clear hvl hstep hvi hsi q1 q2 q3 hBK hlq hsq hset hFL keep hm
      go_upto_region 9 with (fail)
      go_region_law (first
        | (go_simp; (with_reducible refine (HFL.out _).mono ?_); rintro e wf ⟨rfl, rfl⟩; dsimp only)
        | (go_simp; (with_reducible refine HBK.out.mono ?_); rintro e w4 ⟨gi, ni, rfl, hni, hgi, ho4, hs4, hk4⟩; obtain ⟨k1, k2, k3, k4⟩ := KEEP.out w4 hk4; obtain ⟨y0, y1, y2⟩ := box3 k1; have lh4 := lt_of k1; have gl4 : g < w4.heap.size := (k2.lt g rfl).2; have K2 := Lib.hid k2; obtain ⟨⟨uc, hc4⟩, hf4⟩ := OwnLevs.cellR k2 hmN; have HGI := Lib.hid (show wr.heap.size ≤ gi from hgi); have HO4 := Lib.hid ho4; have HS4 := Lib.hid hs4; have K1 := Lib.hid k1; have K3 := Lib.hid k3; have K4 := Lib.hid k4; have HNI := Lib.hid hni; clear k1 k2 k3 k4 hni hgi ho4 hs4 hk4; dsimp only))
      all_goals
        have hgw : g < wr.heap.size := (HOr.out.lt g rfl).2
        have hlie : Lies spL w4 w4.heap.size (.slice (some ⟨gi, 0, none⟩) ni ni) L := Lies.of_own HO4.out
        obtain ⟨so, sg⟩ := OwnLevs.set K2.out m hlie (fun _ b hb => ⟨trivial, (by injection hb with hb; have hb : gi = b := hb; have := HGI.out; omega), own_tyR HO4.out hb⟩)
        rw [HSET.out] at so
        obtain ⟨W5, hW5⟩ : ∃ W, w4.setCell ⟨g, m, none⟩ (.slice (some ⟨gi, 0, none⟩) ni ni) = W := ⟨_, rfl⟩
        rw [hW5] at so sg ⊢
        obtain ⟨-, -, -, -, -, -, -, -, hgw2, hv5, hv6⟩ := HNE.out
        have r1 := HS4.out.off sg NG1.out NG2.out NG3.out
        have r2 := (sg.block hb lh4 (by simp; omega)).trans K1.out
        have r3 := (sg.block _ (lt_of K3.out) (by simp; omega)).trans K3.out
        have r4 := K4.out.fresh sg hgw2
        have R1 := Lib.hid r1
        have R2 := Lib.hid r2
        have R3 := Lib.hid r3
        have R4 := Lib.hid r4
        have SO := Lib.hid so
        clear r1 r2 r3 r4 so sg hW5 hgw2 hv5 hv6 hgw hlie x0 x1 x2 lh y0 y1 y2 lh4 gl4 hc4 hf4
        go_wp2
        refine ⟨⟨i + 1, by go_num, hlt, Lib.hid ?_, Lib.hid ?_, R2, R3, R4⟩, by simp [intOf]; omega⟩
        · rw [HQ1.out, HQ2.out, HQ3.out]
          exact R1.out
        · rw [HQ3.out]
          have e : (si ++ [L]).reverse = L :: si.reverse := by simp
          have e2 : N - (i + 1) = m := by have := HM.out; omega
          dsimp only
          rw [e, e2]
          exact SO.out
    · have e : i = N := by omega
      subst e
      rw [Nat.sub_self, List.replicate_zero, List.nil_append] at HOr
      have hsl : i = (satLv 0 (vecR levelR i b3 e3).2.2).1.reverse.length := by rw [List.length_reverse, Rc.satLv_len, hvl]
      obtain ⟨x0, x1, x2⟩ := box3 HPr.out
      have lh := lt_of HPr.out
      obtain ⟨y0, y1, y2⟩ := box3 HVr.out
      have lv := lt_of HVr.out
      have fz0 : wr.frozen? ⟨w.heap.size, 0, none⟩ = false := by simp [World.frozen?, HVr.out]
      have fz1 : wr.frozen? ⟨w.heap.size, 1, none⟩ = false := by simp [World.frozen?, HVr.out]
      have fz2 : wr.frozen? ⟨w.heap.size, 2, none⟩ = false := by simp [World.frozen?, HVr.out]
      have hset := set3 HVr.out (.int .i64 (k : Int)) (.int .i64 (gn : Int)) (.slice (some ⟨g, 0, none⟩) i i)
      obtain ⟨z0, z1, z2⟩ := box3 hset
      have hlev := HOr.out.levs
      obtain ⟨-, -, -, -, -, hv3, hv4, hlw, -⟩ := HNE.out
      have hnt : ∀ b, some w.heap.size = some b → ¬ Ty wr 65 b ∧ ¬ Ty wr 73 b := by
        intro b hb
        injection hb with hb
        subst hb
        constructor
        · rintro ⟨cs, fr, hc⟩
          rw [HVr.out] at hc
          injection hc with hc
          injection hc with _ hc _
          exact absurd hc (by decide)
        · rintro ⟨cs, fr, hc⟩
          rw [HVr.out] at hc
          injection hc with hc
          injection hc with _ hc _
          exact absurd hc (by decide)
      have f1 := hlev.other (grown3 (.int .i64 (k : Int)) (.int .i64 (gn : Int)) (.slice (some ⟨g, 0, none⟩) i i)) hnt
      have f2 := HSr.out.rd.grown (grown3 (b := w.heap.size) (.int .i64 (k : Int)) (.int .i64 (gn : Int)) (.slice (some ⟨g, 0, none⟩) i i)) hrb
      have f3 := (HKr.out.grown hlw)
      have f4 : w.grownBy ((((wr.setCell ⟨w.heap.size, 0, none⟩ (.int .i64 (k : Int))).setCell ⟨w.heap.size, 1, none⟩ (.int .i64 (gn : Int))).setCell ⟨w.heap.size, 2, none⟩ (.slice (some ⟨g, 0, none⟩) i i))) (some rb) := by
        have := grown3 (W := wr) (b := w.heap.size) (.int .i64 (k : Int)) (.int .i64 (gn : Int)) (.slice (some ⟨g, 0, none⟩) i i)
        exact ⟨this.os.trans f3.os, this.tape.trans f3.tape, this.output.trans f3.output, Nat.le_trans f3.size this.size, fun b hb hn => (this.block b (Nat.lt_of_lt_of_le hb f3.size) (by simp; omega)).trans (f3.block b hb hn)⟩
      have HSL := Lib.hid hsl
      have F1 := Lib.hid f1
      have F2 := Lib.hid f2
      have F4 := Lib.hid f4
      have Z0 := Lib.hid z0
      have Z1 := Lib.hid z1
      have Z2 := Lib.hid z2
      clear hlt hvl hsl hset hlev hnt f1 f2 f3 f4 z0 z1 z2 hv3 hv4 hlw
      go_wp2
      refine bodyPost_ret (v := hv k gn (.slice (some ⟨g, 0, none⟩) i i)) (by simp [results, Try.results35, go_sem, Z0.out, Z1.out, Z2.out]) rfl ?_
      exact ⟨g, i, rfl, HSL.out, F1.out, F2.out, F4.out⟩
end Go.Proofs.Ytmdknedngiggdaa
end
