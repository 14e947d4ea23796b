/- The contract of skylightref11.Take. · The contract of skylightref11.One. -/
import Derived.Test.YtmdknedngiggdaaJ26
import Derived.Test.YtmdknedngiggdaaJ27
section
/- The contract of skylightref11.Take. -/
namespace Go.Proofs.Rc
open Go.Proofs.Vm Go.Proofs.Lh
open Go.Proofs.Lm (Sp)
theorem dlev_step (j : Nat) (b1 bj : List Int) (e1 ej : Int) (pj : List (List (Nat × Nat))) (sj : List (List Sp)) (aj : Nat) (hv : vecR levelR j b1 e1 = (bj, ej, pj)) (hs : decLv 0 pj = (sj, aj)) :
    (vecR levelR (j + 1) b1 e1).1 = (levelR bj ej).1 ∧ (vecR levelR (j + 1) b1 e1).2.1 = (levelR bj ej).2.1 ∧ decLv 0 (vecR levelR (j + 1) b1 e1).2.2 = (sj ++ [(decSp aj (levelR bj ej).2.2).1], (decSp aj (levelR bj ej).2.2).2) := by
  rw [vec_snoc, hv]
  dsimp only
  rw [decLv_snoc, hs]
  exact ⟨rfl, rfl, rfl⟩
/-- What Take tells, piece by piece. -/
theorem take_parts (bs b1 b2 b3 : List Int) (e e1 e2 e3 : Int) (k g n : Nat) (h1 : numR 1024 bs e = (b1, e1, k)) (h2 : numR 4 b1 e1 = (b2, e2, g)) (h3 : numR 52 b2 e2 = (b3, e3, n)) :
    takeM bs e = if (vecR levelR n b3 e3).2.1 ≠ 0 then ((vecR levelR n b3 e3).1, (vecR levelR n b3 e3).2.1, (0, 0, [])) else if chk (k : Int) (g : Int) (decLv 0 (vecR levelR n b3 e3).2.2).1.reverse ≠ 0 then ((vecR levelR n b3 e3).1, 2, (0, 0, [])) else ((vecR levelR n b3 e3).1, 0, ((k : Int), (g : Int), (decLv 0 (vecR levelR n b3 e3).2.2).1.reverse)) := by
  obtain ⟨r1, r2, r3⟩ := raw_parts bs b1 b2 b3 e e1 e2 e3 k g n h1 h2 h3
  unfold takeM
  rw [r1, r2, r3]
  rfl
theorem rev_lens {L : List (List Sp)} (h : ∀ l ∈ L, l.length ≤ 1025) (i : Nat) : (lev L.reverse i).length ≤ 1025 := by
  rcases Nat.lt_or_ge i L.reverse.length with hi | hi
  · rw [lev_lt hi]
    exact h _ (List.mem_reverse.1 (List.getElem_mem hi))
  · rw [lev_ge hi]
    simp
end Go.Proofs.Rc
namespace Go.Proofs.Ytmdknedngiggdaa
open Go.RowKit Go.Shelf Go.Proofs.Vm Go.Proofs.Rw Go.Proofs.Lh
open Go.Proofs.Rc (numR pairR levelR vecR decSp decLv takeM maxT)

/-- What the document's Take keeps: the reader's box, the histogram's, the results', the levels that were read. -/
structure TSt (w wr : World) (B p8 p10 : Nat) (k g : Nat) (bi : List Int) (ei : Int) (v : Value) (L : Lv) : Prop where
  rdr : ∃ A c, wr.heap[p8]? = some (.cells #[.slice A bi.length c, .int .i64 ei] 42) ∧ Holds wr B (.slice A bi.length c) bi
  hst : wr.heap[p10]? = some (.cells #[.int .i64 (k : Int), .int .i64 (g : Int), .slice none 0 0] 27)
  r2 : wr.heap[w.heap.size + 1]? = some (.cells #[.slice none 0 0, .int .i64 0] 42)
  r3 : wr.heap[w.heap.size + 1 + 1]? = some (.cells #[.int .i64 0, .int .i64 0, .slice none 0 0] 27)
  bel : Below w.heap.size w wr
  own : OwnLevs 65 (fun _ => True) wr w.heap.size v L
  g8 : w.heap.size + 1 + 1 < p8
  g10 : w.heap.size + 1 + 1 < p10
  n8 : p8 ≠ p10
theorem ty_of {w : World} {b : Nat} {cs : Array Value} {T : TypeId} (h : w.heap[b]? = some (.cells cs T)) : Ty w T b := ⟨cs, (0, 0), h⟩
/-- A block of a type that levels don't lie in. -/
theorem OwnLevs.other {T : TypeId} {Z : Nat → Prop} {w w' : World} {base x : Nat} {v : Value} {ls : List (List Sp)} {cs : Array Value} {T' : TypeId} (h : OwnLevs T Z w base v ls) (hx : w.heap[x]? = some (.cells cs T')) (h1 : T ≠ T') (h2 : 73 ≠ T') (hg : w.grownBy w' (some x)) : OwnLevs T Z w' base v ls :=
  OwnLevs.keepTy h hg.size fun b hb => by
    rcases hb with hb | hb
    · exact hg.block b hb.lt fun e => by
        injection e with e
        exact hb.ne (ty_of hx) h1 e
    · exact hg.block b hb.lt fun e => by
        injection e with e
        exact hb.ne (ty_of hx) h2 e
theorem TSt.below {w wr w1 : World} {B p8 p10 k g : Nat} {bi : List Int} {ei : Int} {v : Value} {L : Lv} (hB : B ≤ w.heap.size) (h : TSt w wr B p8 p10 k g bi ei v L) (hb : Below wr.heap.size wr w1) : TSt w w1 B p8 p10 k g bi ei v L := by
  obtain ⟨A, c, h1, h2⟩ := h.rdr
  have hs := h.bel.size
  exact ⟨⟨A, c, (hb.block _ (lt_of h1)).trans h1, h2.below (hb.mono (by omega))⟩, (hb.block _ (lt_of h.hst)).trans h.hst, (hb.block _ (lt_of h.r2)).trans h.r2, (hb.block _ (lt_of h.r3)).trans h.r3, thn h.bel hb, h.own.grow hb, h.g8, h.g10, h.n8⟩
theorem TSt.set {w wr : World} {B p8 p10 k g : Nat} {bi b2 : List Int} {ei e2 : Int} {v : Value} {L : Lv} {A : Option Addr} {c : Nat} (hB : B ≤ w.heap.size) (h : TSt w wr B p8 p10 k g bi ei v L) (hh : Holds wr B (.slice A b2.length c) b2) :
    TSt w ((wr.setCell ⟨p8, 0, none⟩ (.slice A b2.length c)).setCell ⟨p8, 1, none⟩ (.int .i64 e2)) B p8 p10 k g b2 e2 v L := by
  obtain ⟨A1, c1, h1, h2⟩ := h.rdr
  have g2 := grown_trans (grown_set wr p8 0 (.slice A b2.length c)) (grown_set _ p8 1 (.int .i64 e2))
  have g8 := h.g8
  have n8 := h.n8
  refine ⟨⟨A, c, by rw [set1 _ (set1 _ h1)]; rfl, hh.keep fun b o hb => World.cell?_of_block (a := ⟨b, o, none⟩) ((Below.heap_setCell _ _ _ _ (show b ≠ p8 by omega)).trans (Below.heap_setCell _ _ _ _ (show b ≠ p8 by omega)))⟩, ?_, ?_, ?_, h.bel.grown g2 h.bel.size (fun k hk => by cases hk; omega), OwnLevs.other h.own h1 (by decide) (by decide) g2, g8, h.g10, n8⟩
  · exact (g2.block _ (lt_of h.hst) (by simp; omega)).trans h.hst
  · exact (g2.block _ (lt_of h.r2) (by simp; omega)).trans h.r2
  · exact (g2.block _ (lt_of h.r3) (by simp; omega)).trans h.r3
theorem TSt.app {w wr w1 : World} {B p8 p10 k g : Nat} {bi : List Int} {ei : Int} {v v' : Value} {L L' : Lv} (hB : B ≤ w.heap.size) (h : TSt w wr B p8 p10 k g bi ei v L) (hg : wr.grownBy w1 v.ownBlock) (ho : OwnLevs 65 (fun _ => True) w1 w.heap.size v' L') : TSt w w1 B p8 p10 k g bi ei v' L' := by
  obtain ⟨A, c, h1, h2⟩ := h.rdr
  have hs := h.bel.size
  have hne : ∀ p cs T, wr.heap[p]? = some (.cells cs T) → T ≠ 65 → some p ≠ v.ownBlock := by
    intro p cs T hp hT
    obtain ⟨vs, o1, -⟩ := h.own
    exact row_ne o1 hp hT
  refine ⟨⟨A, c, (hg.block _ (lt_of h1) (hne _ _ _ h1 (by decide))).trans h1, h2.keep fun b o hb => World.cell?_of_block (a := ⟨b, o, none⟩) (hg.block b (by omega) fun e => ?_)⟩, (hg.block _ (lt_of h.hst) (hne _ _ _ h.hst (by decide))).trans h.hst, (hg.block _ (lt_of h.r2) (hne _ _ _ h.r2 (by decide))).trans h.r2, (hg.block _ (lt_of h.r3) (hne _ _ _ h.r3 (by decide))).trans h.r3, h.bel.grown hg hs (fun k hk => (h.own.lt k hk).1), ho, h.g8, h.g10, h.n8⟩
  have := (h.own.lt _ e.symm).1
  omega
theorem heap_threeR (w : World) (o0 o1 o2 : Obj) : ∃ W, W = ((w.alloc o0).alloc o1).alloc o2 ∧ W.heap.size = w.heap.size + 3 ∧ W.heap[w.heap.size]? = some o0 ∧ W.heap[w.heap.size + 1]? = some o1 ∧ W.heap[w.heap.size + 1 + 1]? = some o2 ∧ Below w.heap.size w W := by
  obtain ⟨W2, h1, h2, h3, h4, h5⟩ := heap_two w o0 o1
  refine ⟨W2.alloc o2, by rw [h1], by simp [h2], (Below.heap_alloc _ _ _ (by omega)).trans h3, (Below.heap_alloc _ _ _ (by omega)).trans h4, ?_, h5.alloc (by omega) _⟩
  rw [show w.heap.size + 1 + 1 = W2.heap.size by omega]
  exact heap_alloc_new W2 o2

/-- Where no block of the levels' types is written. -/
theorem Levs.keepTy {w w' : World} {v : Value} {ls : List (List Sp)} (h : Levs w w.heap.size v ls) (hs : w.heap.size ≤ w'.heap.size) (hk : ∀ b, (Ty w 65 b ∨ Ty w 73 b) → w'.heap[b]? = w.heap[b]?) : Levs w' w'.heap.size v ls := by
  obtain ⟨h0, vs, h1, h2, h4, h3⟩ := h
  refine ⟨h0, vs, lies_same h1 hs fun hn b hb => hk b (.inl (h4 hn b hb)), h2, fun hn b hb => (h4 hn b hb).keep (hk b (.inl (h4 hn b hb))), fun i u l hu hl => ?_⟩
  obtain ⟨a1, a2⟩ := h3 i u l hu hl
  exact ⟨lies_same a1 hs fun hn b hb => hk b (.inr (a2 hn b hb)), fun hn b hb => (a2 hn b hb).keep (hk b (.inr (a2 hn b hb)))⟩
theorem Levs.keep2 {w w' : World} {v : Value} {ls : List (List Sp)} {p q : Nat} {cs cs' : Array Value} {T T' : TypeId} (h : Levs w w.heap.size v ls) (hk : Keep2 p q w w') (hp : w.heap[p]? = some (.cells cs T)) (hq : w.heap[q]? = some (.cells cs' T'))
    (h1 : T ≠ 65 ∧ T ≠ 73 ∧ T' ≠ 65 ∧ T' ≠ 73) : Levs w' w'.heap.size v ls :=
  Levs.keepTy h hk.size fun b hb => by
    obtain ⟨a1, a2, a3, a4⟩ := h1
    rcases hb with hb | hb
    · exact hk.block b hb.lt ((ty_of hp).ne hb a1).symm ((ty_of hq).ne hb a3).symm
    · exact hk.block b hb.lt ((ty_of hp).ne hb a2).symm ((ty_of hq).ne hb a4).symm
theorem Holds.keep2 {w w' : World} {B p q : Nat} {v : Value} {bs : List Int} (h : Holds w B v bs) (hk : Keep2 p q w w') (hB : B ≤ w.heap.size) (hp : B ≤ p) (hq : B ≤ q) : Holds w' B v bs :=
  h.keep fun b o hb => World.cell?_of_block (a := ⟨b, o, none⟩) (hk.block b (by omega) (by omega) (by omega))
theorem below_keep2 {w a b : World} {p q : Nat} (h : Below w.heap.size w a) (hk : Keep2 p q a b) (hp : w.heap.size ≤ p) (hq : w.heap.size ≤ q) : Below w.heap.size w b :=
  ⟨hk.os.trans h.os, hk.tape.trans h.tape, hk.output.trans h.output, Nat.le_trans h.size hk.size, fun i hi => (hk.block i (Nat.lt_of_lt_of_le hi h.size) (by omega) (by omega)).trans (h.block i hi)⟩
/-- Two boxes are written. -/
theorem fin5 {W : World} {p q : Nat} {x y a b c : Value} {T T' : TypeId} (hp : W.heap[p]? = some (.cells #[x, y] T)) (hq : W.heap[q]? = some (.cells #[a, b, c] T')) (hne : p ≠ q) (x' y' a' b' c' : Value) :
    (((((W.setCell ⟨p, 0, none⟩ x').setCell ⟨p, 1, none⟩ y').setCell ⟨q, 0, none⟩ a').setCell ⟨q, 1, none⟩ b').setCell ⟨q, 2, none⟩ c').heap[p]? = some (.cells #[x', y'] T) ∧
    (((((W.setCell ⟨p, 0, none⟩ x').setCell ⟨p, 1, none⟩ y').setCell ⟨q, 0, none⟩ a').setCell ⟨q, 1, none⟩ b').setCell ⟨q, 2, none⟩ c').heap[q]? = some (.cells #[a', b', c'] T') ∧
    Keep2 p q W (((((W.setCell ⟨p, 0, none⟩ x').setCell ⟨p, 1, none⟩ y').setCell ⟨q, 0, none⟩ a').setCell ⟨q, 1, none⟩ b').setCell ⟨q, 2, none⟩ c') := by
  have e1 : ((W.setCell ⟨p, 0, none⟩ x').setCell ⟨p, 1, none⟩ y').heap[p]? = some (.cells #[x', y'] T) := by
    rw [set1 _ (set1 _ hp)]
    rfl
  have e2 : ((W.setCell ⟨p, 0, none⟩ x').setCell ⟨p, 1, none⟩ y').heap[q]? = some (.cells #[a, b, c] T') := by
    rw [Below.heap_setCell _ _ _ _ (show q ≠ p by omega), Below.heap_setCell _ _ _ _ (show q ≠ p by omega)]
    exact hq
  exact ⟨(keep3 hne a' b' c').trans e1, set3 e2 a' b' c', (Keep2.of_grown (grown_trans (grown_set _ _ _ _) (grown_set _ _ _ _))).trans (Keep2.of_grown' (grown3 a' b' c'))⟩

/-- What is there behind 'turned': as TSt, and the levels in the histogram's box. -/
structure USt (w wr : World) (B p8 p10 : Nat) (k g : Nat) (bi : List Int) (ei : Int) (A : Option Addr) (c : Nat) (R : Value) (L : Lv) : Prop where
  rdr : wr.heap[p8]? = some (.cells #[.slice A bi.length c, .int .i64 ei] 42)
  hld : Holds wr B (.slice A bi.length c) bi
  hst : wr.heap[p10]? = some (.cells #[.int .i64 (k : Int), .int .i64 (g : Int), R] 27)
  r2 : wr.heap[w.heap.size + 1]? = some (.cells #[.slice none 0 0, .int .i64 0] 42)
  r3 : wr.heap[w.heap.size + 1 + 1]? = some (.cells #[.int .i64 0, .int .i64 0, .slice none 0 0] 27)
  bel : Below w.heap.size w wr
  lev : Levs wr wr.heap.size R L
theorem TSt.turn {w wr w5 : World} {B p8 p10 k g : Nat} {bi : List Int} {ei : Int} {v : Value} {L L' : Lv} {A : Option Addr} {c : Nat} {R : Value} (hB : B ≤ w.heap.size) (h : TSt w wr B p8 p10 k g bi ei v L)
    (h1 : wr.heap[p8]? = some (.cells #[.slice A bi.length c, .int .i64 ei] 42)) (h2 : Holds wr B (.slice A bi.length c) bi) (hb : Below wr.heap.size wr w5) (hL : Levs w5 w5.heap.size R L') : USt w (w5.setCell ⟨p10, 2, none⟩ R) B p8 p10 k g bi ei A c R L' := by
  have hs := h.bel.size
  have g10 := h.g10
  have n8 := h.n8
  have hb5 := thn h.bel hb
  have hg := grown_set w5 p10 2 R
  have t := h.below hB hb
  refine ⟨(hg.block _ (by have := lt_of h1; have := hb.size; omega) (by simp; omega)).trans ((hb.block _ (lt_of h1)).trans h1), ?_, ?_, (hg.block _ (lt_of t.r2) (by simp; omega)).trans t.r2, (hg.block _ (lt_of t.r3) (by simp; omega)).trans t.r3, hb5.grown hg hb5.size (fun k hk => by cases hk; omega), ?_⟩
  · exact (h2.below (hb.mono (by omega))).keep fun b o hbb => World.cell?_of_block (a := ⟨b, o, none⟩) (Below.heap_setCell _ _ _ _ (show b ≠ p10 by omega))
  · rw [set1 _ t.hst]
    rfl
  · refine Levs.keepTy hL hg.size fun b hb => ?_
    rcases hb with hb | hb
    · exact hg.block b hb.lt fun e => by
        injection e with e
        exact (ty_of t.hst).ne hb (by decide) e.symm
    · exact hg.block b hb.lt fun e => by
        injection e with e
        exact (ty_of t.hst).ne hb (by decide) e.symm

set_option maxRecDepth 100000 in
set_option maxHeartbeats 4000000 in
theorem take11_any {w : World} {B : Nat} {A : Option Addr} {cap : Nat} {bs : List Int} (hB : B ≤ w.heap.size) (h : Holds w B (.slice A bs.length cap) bs) (hok : Rc.okB bs) (e : Int) :
    Calls Try.prog 17 #[.agg #[.slice A bs.length cap, .int .i64 e]] w fun r w' => ∃ A' c' v, r = .returned (.tuple #[.agg #[.slice A' (takeM bs e).1.length c', .int .i64 (takeM bs e).2.1], v]) ∧ Holds w' B (.slice A' (takeM bs e).1.length c') (takeM bs e).1 ∧ ToldH w' v (takeM bs e).2.2 ∧ Below w.heap.size w w' := by
  obtain ⟨W0, hW0, hz0, hp1, hp2, hp3, hb0⟩ := heap_threeR w (.cells #[.slice A bs.length cap, .int .i64 e] 42) (.cells #[.slice none 0 0, .int .i64 0] 42) (.cells #[.int .i64 0, .int .i64 0, .slice none 0 0] 27)
  have hh0 := h.below (hb0.mono hB)
  have hN1 := rfRead_at (w := W0) (by omega) hh0 hok e 1024 1024 rfl
  have ok1 := Rc.okB_num hok 1024 e
  have l1 := Rc.num_le 1024 bs e
  have htk := fun b1 b2 b3 e1 e2 e3 k g n => Rc.take_parts bs b1 b2 b3 e e1 e2 e3 k g n
  obtain ⟨⟨b1, e1, k⟩, hq1⟩ : ∃ q, numR 1024 bs e = q := ⟨_, rfl⟩
  rw [hq1] at hN1 ok1 l1
  dsimp only at hN1 ok1 l1
  have hN2 := fun (W : World) (A : Option Addr) (c : Nat) (hW : B ≤ W.heap.size) (hh : Holds W B (.slice A b1.length c) b1) => rfRead_at hW hh ok1 e1 4 4 rfl
  have ok2 := Rc.okB_num ok1 4 e1
  have l2 := Rc.num_le 4 b1 e1
  obtain ⟨⟨b2, e2, gn⟩, hq2⟩ : ∃ q, numR 4 b1 e1 = q := ⟨_, rfl⟩
  rw [hq2] at hN2 ok2 l2
  dsimp only at hN2 ok2 l2
  have hN3 := fun (W : World) (A : Option Addr) (c : Nat) (hW : B ≤ W.heap.size) (hh : Holds W B (.slice A b2.length c) b2) => rfRead_at hW hh ok2 e2 52 52 rfl
  have ok3 := Rc.okB_num ok2 52 e2
  have l3 := Rc.num_le 52 b2 e2
  obtain ⟨⟨b3, e3, N⟩, hq3⟩ : ∃ q, numR 52 b2 e2 = q := ⟨_, rfl⟩
  rw [hq3] at hN3 ok3 l3
  dsimp only at hN3 ok3 l3
  have htk2 := htk b1 b2 b3 e1 e2 e3 k gn N hq1 hq2 hq3
  obtain ⟨RES, hRES⟩ : ∃ q, takeM bs e = q := ⟨_, rfl⟩
  rw [hRES] at htk2 ⊢
  have HTKR := Lib.hid htk2
  clear htk2 hRES
  have kI : (k : Int) ≤ 1024 := by omega
  have gI : (gn : Int) ≤ 4 := by omega
  have nI : (N : Int) ≤ 52 := by omega
  obtain ⟨x0, x1, -, -⟩ := box2 hp1
  have lh := lt_of hp1
  have HW0 := Lib.hid hW0
  have HB0 := Lib.hid hb0
  have HP2 := Lib.hid hp2
  have HP3 := Lib.hid hp3
  have HZ0 := Lib.hid hz0
  have HN1 := Lib.hid hN1
  have HN2 := Lib.hid hN2
  have HN3 := Lib.hid hN3
  have OK3 := Lib.hid ok3
  clear h hok htk hp1 hp2 hp3 hb0 hz0 hW0 hh0 hN1 hN2 hN3 ok1 ok2 ok3 hq1 hq2 hq3 l1 l2 l3
  go_enter Try.func17, Try.ntmps17
  go_upto_region 1 with (fail)
  rw [← HW0.out]
  clear HW0
  go_upto_region 2 with (go_at_call 37; (with_reducible refine HN1.out.mono ?_); rintro e w1 ⟨A1, c1, rfl, h1, hb1⟩; dsimp only at h1 ⊢; have HH1 := Lib.hid h1; have HB1 := Lib.hid (thn HB0.out hb1); have HK1 := Lib.hid hb1; clear h1 hb1)
  obtain ⟨o1, ho1⟩ : ∃ o, (.cells #[.slice A1 b1.length c1, .int .i64 e1] 42 : Obj) = o := ⟨_, rfl⟩
  have pp := heap_alloc_new w1 o1
  have ha := (Below.refl w1.heap.size w1).alloc (Nat.le_refl _) o1
  rw [ho1]
  generalize w1.alloc o1 = X1 at *
  subst ho1
  have HX1 := Lib.hid (HH1.out.below (ha.mono (Nat.le_trans hB HB1.out.size)))
  have HBx1 := Lib.hid (thn HB1.out ha)
  have HKx1 := Lib.hid (thn HK1.out ha)
  have HZk1 := Lib.hid HK1.out.size
  have PP1 := Lib.hid pp
  clear x0 x1 lh
  obtain ⟨x0, x1, -, -⟩ := box2 pp
  have lh := lt_of pp
  clear pp ha HH1 HB1 HK1
  go_upto_region 3 with (go_at_call 37; (with_reducible refine (HN2.out _ _ _ (Nat.le_trans hB HBx1.out.size) HX1.out).mono ?_); rintro e w2 ⟨A2, c2, rfl, h1, hb1⟩; dsimp only at h1 ⊢; have HH2 := Lib.hid h1; have HB2 := Lib.hid (thn HBx1.out hb1); have HK2 := Lib.hid hb1; clear h1 hb1)
  obtain ⟨o2, ho2⟩ : ∃ o, (.cells #[.slice A2 b2.length c2, .int .i64 e2] 42 : Obj) = o := ⟨_, rfl⟩
  have pp := heap_alloc_new w2 o2
  have ha := (Below.refl w2.heap.size w2).alloc (Nat.le_refl _) o2
  rw [ho2]
  generalize w2.alloc o2 = X2 at *
  subst ho2
  have HX2 := Lib.hid (HH2.out.below (ha.mono (Nat.le_trans hB HB2.out.size)))
  have HBx2 := Lib.hid (thn HB2.out ha)
  have HKx2 := Lib.hid (thn HK2.out ha)
  have HZk2 := Lib.hid HK2.out.size
  have PP2 := Lib.hid pp
  clear x0 x1 lh
  obtain ⟨x0, x1, -, -⟩ := box2 pp
  have lh := lt_of pp
  clear pp ha HH2 HB2 HK2
  go_upto_region 4 with (go_at_call 37; (with_reducible refine (HN3.out _ _ _ (Nat.le_trans hB HBx2.out.size) HX2.out).mono ?_); rintro e w3 ⟨A3, c3, rfl, h1, hb1⟩; dsimp only at h1 ⊢; have HH3 := Lib.hid h1; have HB3 := Lib.hid (thn HBx2.out hb1); have HK3 := Lib.hid hb1; clear h1 hb1)
  obtain ⟨o3, ho3⟩ : ∃ o, (.cells #[.slice A3 b3.length c3, .int .i64 e3] 42 : Obj) = o := ⟨_, rfl⟩
  have pp := heap_alloc_new w3 o3
  have ha := (Below.refl w3.heap.size w3).alloc (Nat.le_refl _) o3
  rw [ho3]
  generalize w3.alloc o3 = X3 at *
  subst ho3
  have HX3 := Lib.hid (HH3.out.below (ha.mono (Nat.le_trans hB HB3.out.size)))
  have HBx3 := Lib.hid (thn HB3.out ha)
  have HKx3 := Lib.hid (thn HK3.out ha)
  have HZk3 := Lib.hid HK3.out.size
  have PP3 := Lib.hid pp
  clear x0 x1 lh
  obtain ⟨x0, x1, -, -⟩ := box2 pp
  have lh := lt_of pp
  clear pp ha HH3 HB3 HK3
  have hkk := thn HKx1.out (thn HKx2.out HKx3.out)
  have hzz : w.heap.size + 3 ≤ w3.heap.size := by
    have a1 := HZ0.out
    have a2 := HKx1.out.size
    have a3 := HKx2.out.size
    have a4 := HZk3.out
    omega
  go_upto_region 5 with (fail)
  have hal := (Below.refl X3.heap.size X3).alloc (Nat.le_refl _) (.cells #[.int .i64 (k : Int), .int .i64 (gn : Int), .slice none 0 0] 27)
  have hph := heap_alloc_new X3 (.cells #[.int .i64 (k : Int), .int .i64 (gn : Int), .slice none 0 0] 27)
  have hl3 := lt_of PP3.out
  have hts : TSt w (X3.alloc (.cells #[.int .i64 (k : Int), .int .i64 (gn : Int), .slice none 0 0] 27)) B w3.heap.size X3.heap.size k gn b3 e3 (.slice none 0 0) [] := by
    refine ⟨⟨A3, c3, (hal.block _ hl3).trans PP3.out, HX3.out.below (hal.mono (Nat.le_trans hB HBx3.out.size))⟩, hph, ?_, ?_, thn HBx3.out hal, OwnLevs.nil _ _ _ _, by omega, by omega, by omega⟩
    · have hl := lt_of HP2.out
      have hs := hkk.size
      exact (hal.block _ (by omega)).trans ((hkk.block _ hl).trans HP2.out)
    · have hl := lt_of HP3.out
      have hs := hkk.size
      exact (hal.block _ (by omega)).trans ((hkk.block _ hl).trans HP3.out)
  generalize X3.alloc (.cells #[.int .i64 (k : Int), .int .i64 (gn : Int), .slice none 0 0] 27) = Wh at *
  obtain ⟨p8, hp8⟩ : ∃ p, w3.heap.size = p := ⟨_, rfl⟩
  obtain ⟨p10, hp10⟩ : ∃ p, X3.heap.size = p := ⟨_, rfl⟩
  rw [hp8, hp10] at hts ⊢
  have HTS := Lib.hid hts
  clear hkk hzz hal hph hl3 hts hp8 hp10 x0 x1 lh PP1 PP2 PP3 HX1 HX2 HX3 HBx1 HBx2 HBx3 HKx1 HKx2 HKx3 HZk1 HZk2 HZk3 HZ0 HB0 HP2 HP3 HN1 HN2 HN3
  go_wp2
  go_loopw [11, 12, 13] (fun s11 s12 s13 wr => ∃ (i : Nat) (v : Value) (a : Nat) (L : Lv), v = s12 ∧ s13 = .int .u64 (i : Int) ∧ i ≤ N ∧ s11 = .int .u64 (a : Int) ∧ a < 18446744073709551616 ∧ Hid (TSt w wr B p8 p10 k gn (vecR levelR i b3 e3).1 (vecR levelR i b3 e3).2.1 v L) ∧ Hid (L.length = i ∧ ∀ l ∈ L, l.length ≤ 1025) ∧
    Hid ((vecR levelR i b3 e3).2.1 = 0 → L = (decLv 0 (vecR levelR i b3 e3).2.2).1 ∧ a = (decLv 0 (vecR levelR i b3 e3).2.2).2)) (fun _ _ s13 _ => N - (intOf s13).toNat)
  case atStart => exact ⟨0, _, 0, [], rfl, rfl, Nat.zero_le _, rfl, by omega, HTS, Lib.hid ⟨rfl, by simp⟩, Lib.hid (fun _ => ⟨rfl, rfl⟩)⟩
  case round =>
    obtain ⟨i, v, a, L, rfl, rfl, hiN, rfl, hal, HTr, HLr, HDr⟩ := hrel
    clear HTS
    have hoki := Rc.okB_vec Rc.level_drop OK3.out i e3
    have hstay := fun h => Rc.vec_stay' Rc.level_bad hiN (bs := b3) (e := e3) h
    have hstep := fun bj ej pj sj aj => Rc.dlev_step i b3 bj e3 ej pj sj aj
    obtain ⟨⟨bi, ei, pi⟩, hvi⟩ : ∃ q, vecR levelR i b3 e3 = q := ⟨_, rfl⟩
    rw [hvi] at HTr HDr hoki hstay
    dsimp only at HTr HDr hoki hstay
    obtain ⟨Ar, cr, hrr, hhr⟩ := HTr.out.rdr
    obtain ⟨y0, y1, z0, z1⟩ := box2 hrr
    have lz := lt_of hrr
    have lB : B ≤ wr.heap.size := Nat.le_trans hB HTr.out.bel.size
    have haI : (a : Int) ≤ 18446744073709551615 := by omega
    have hiI : (i : Int) ≤ 52 := by omega
    by_cases hgo : i < N ∧ ei = 0
    · obtain ⟨hlt, rfl⟩ := hgo
      obtain ⟨hd1, hd2⟩ := HDr.out rfl
      obtain ⟨q1, q2, q3⟩ := hstep bi 0 pi L a hvi (Prod.ext hd1.symm hd2.symm)
      have hsp := spans_any lB hhr hoki 0 a hal
      obtain ⟨⟨b', e', q'⟩, hlq⟩ : ∃ q, levelR bi 0 = q := ⟨_, rfl⟩
      rw [hlq] at hsp q1 q2 q3
      dsimp only at hsp q1 q2 q3
      have HSP := Lib.hid hsp
      have HQ1 := Lib.hid q1
      have HQ2 := Lib.hid q2
      have HQ3 := Lib.hid q3
      have HLT := Lib.hid hlt
      have HRR := Lib.hid hrr
      clear hoki hstay hstep hvi hhr hd1 hd2 q1 q2 q3 hsp hlq HDr hrr
      go_upto_region 11 with (go_at_call 38; (with_reducible refine HSP.out.mono ?_); rintro e w4 ⟨A4, c4, v4, L4, a4, rfl, h1, ho4, hl4, ha4, hd4, hb4⟩; dsimp only at h1 ho4 hl4 ha4 hd4 ⊢; have HH4 := Lib.hid h1; have HT4 := Lib.hid (HTr.out.below hB hb4); have HO4 := Lib.hid ho4; have HL4 := Lib.hid hl4; have HA4 := Lib.hid ha4; have HD4 := Lib.hid hd4; have HB4 := Lib.hid hb4; clear h1 ho4 hl4 ha4 hd4 hb4)
      clear HSP HTr y0 y1 z0 z1 lz HRR
      obtain ⟨o4, ho4e⟩ : ∃ o, (.cells #[.slice A4 b'.length c4, .int .i64 e'] 42 : Obj) = o := ⟨_, rfl⟩
      have pp := heap_alloc_new w4 o4
      have ha := (Below.refl w4.heap.size w4).alloc (Nat.le_refl _) o4
      have t1 := HT4.out.below hB ha
      have h1 := HH4.out.below (ha.mono (by have := HB4.out.size; omega))
      have hO := own_below HO4.out ha
      rw [ho4e]
      generalize w4.alloc o4 = X4 at *
      subst ho4e
      obtain ⟨x0, x1, -, -⟩ := box2 pp
      have lh := lt_of pp
      obtain ⟨Ax, cx, hrx, -⟩ := t1.rdr
      obtain ⟨y0, y1, z0, z1⟩ := box2 hrx
      have lz := lt_of hrx
      have t2 := t1.set (e2 := e') hB h1
      have g2 := grown_trans (grown_set X4 p8 0 (.slice A4 b'.length c4)) (grown_set _ p8 1 (.int .i64 e'))
      have hO2 : Own ((X4.setCell ⟨p8, 0, none⟩ (.slice A4 b'.length c4)).setCell ⟨p8, 1, none⟩ (.int .i64 e')) wr.heap.size v4 L4 := own_keep hO fun b hb => g2.block b (hO.lt b hb).2 fun e => by
        injection e with e
        subst e
        exact row_ne hO hrx (by decide) hb.symm
      go_upto_region 12 with (fail)
      generalize (X4.setCell ⟨p8, 0, none⟩ (.slice A4 b'.length c4)).setCell ⟨p8, 1, none⟩ (.int .i64 e') = Xs at *
      have hub : L4 ≠ [] → ∀ b, v4.ownBlock = some b → True ∧ v.ownBlock ≠ some b ∧ Ty Xs 73 b := by
        intro hn b hb
        have hty := own_tyR hO2 hb
        refine ⟨trivial, fun e => ?_, hty⟩
        obtain ⟨vs, o1, -⟩ := t2.own
        exact (own_tyR o1 e).ne hty (by decide) rfl
      have HUB := Lib.hid hub
      have T2 := Lib.hid t2
      have HLI := Lib.hid (Lies.of_own hO2)
      clear pp ha t1 h1 hO x0 x1 lh hrx y0 y1 z0 z1 lz t2 g2 hO2 hub HT4 HH4 HO4 HB4
      have hll := HLr.out.1
      have HLL := Lib.hid hll
      clear hll
      obtain ⟨A4', c4', hv4, -, -, -⟩ := HLI.out.form
      subst hv4
      go_upto_region 9 with (at_builtin; refine wpList_lev _ 24 info_row Try.underlying22 rfl (by decide) Xs rfl _ _ rfl w.heap.size v _ L L4 rfl T2.out.own Xs.heap.size rfl rfl HLI.out HUB.out (by have := HLL.out; omega) T2.out.bel.size ?_; intro v' w6 ho6 hq6 hg6; have T6 := Lib.hid ((T2.out.below hB ((Below.refl Xs.heap.size Xs).alloc (Nat.le_refl _) (.cells #[_] 65))).app hB hg6 ho6); clear ho6 hg6 hq6)
      go_wp2
      refine ⟨⟨i + 1, v', a4, L ++ [L4], rfl, by go_num, HLT.out, rfl, HA4.out, Lib.hid ?_, Lib.hid ?_, Lib.hid ?_⟩, by simp [intOf]; omega⟩
      · rw [HQ1.out, HQ2.out]
        exact T6.out
      · refine ⟨by rw [List.length_append, HLL.out]; rfl, fun l hl => ?_⟩
        rcases List.mem_append.1 hl with hl | hl
        · exact HLr.out.2 l hl
        · rw [List.mem_singleton.1 hl]
          exact HL4.out
      · intro he
        rw [HQ2.out] at he
        obtain ⟨u1, u2⟩ := HD4.out he
        rw [HQ3.out]
        exact ⟨by rw [u1], u2⟩
    · have hfin : (vecR levelR N b3 e3).1 = bi ∧ (vecR levelR N b3 e3).2.1 = ei ∧ (ei = 0 → (decLv 0 (vecR levelR N b3 e3).2.2).1 = L) := by
        by_cases hlt : i < N
        · have he : ei ≠ 0 := fun e => hgo ⟨hlt, e⟩
          obtain ⟨u1, u2⟩ := hstay he
          exact ⟨u1, u2, fun e => absurd e he⟩
        · have ee : i = N := by omega
          subst ee
          have hd := HDr.out
          rw [hvi]
          dsimp only
          exact ⟨rfl, rfl, fun e => (hd e).1.symm⟩
      have htest : (decide (i < N) = false) ∨ (i < N ∧ (ei == 0) = false) := by
        by_cases hlt : i < N
        · have he : ei ≠ 0 := fun e => hgo ⟨hlt, e⟩
          exact .inr ⟨hlt, by simpa using he⟩
        · exact .inl (by rw [decide_eq_false_iff_not]; exact hlt)
      have hll := HLr.out.1
      have hlev := HTr.out.own.levs
      obtain ⟨Av, cv, hv, -, -, hLV⟩ := hlev.form
      subst hv
      rw [hll] at hLV ⊢
      have htn := fun W (hW : Below wr.heap.size wr W) => turn11_any L (by omega) W Av cv (by rw [hll]; exact hLV.grow hW)
      rw [hll] at htn
      have hrl := Rc.rev_lens HLr.out.2
      have hrll : L.reverse.length = i := by rw [List.length_reverse, hll]
      have hch := fun W A c (hW : Levs W W.heap.size (.slice A i c) L.reverse) => rhist_any (k : Int) (gn : Int) L.reverse (by rw [hrll]; omega) (fun j => by have := hrl j; omega) W A c (by rw [hrll]; exact hW.reads)
      rw [hrll] at hch
      have turn := fun (w5 : World) (A5 : Option Addr) (c5 : Nat) (hb : Below wr.heap.size wr w5) (hL : Levs w5 w5.heap.size (.slice A5 i c5) L.reverse) => HTr.out.turn hB hrr hhr hb hL
      have HFIN := Lib.hid hfin
      have HTN := Lib.hid htn
      have HCH := Lib.hid hch
      have TURN := Lib.hid turn
      have HRLL := Lib.hid hrll
      have HRR := Lib.hid hrr
      have g10 := HTr.out.g10
      have g8 := HTr.out.g8
      have HG := Lib.hid (show w.heap.size + 1 + 1 < p8 ∧ w.heap.size + 1 + 1 < p10 ∧ p8 ≠ p10 from ⟨g8, g10, HTr.out.n8⟩)
      have HHS := Lib.hid HTr.out.hst
      obtain ⟨cc, hcc⟩ : ∃ q, chk (k : Int) (gn : Int) L.reverse = q := ⟨_, rfl⟩
      rw [hcc] at HCH
      have HCC := Lib.hid hcc
      clear hoki hstay hstep hvi hgo hhr hrr hfin hll hlev hLV htn hrl hrll hch turn HDr HTr HLr g10 g8 hcc
      have hbx := Below.refl wr.heap.size wr
      by_cases he : ei = 0
      · subst he
        by_cases hc : cc = 0
        · subst hc
          have heq : RES = (bi, 0, ((k : Int), (gn : Int), L.reverse)) := by
            rw [HTKR.out]
            obtain ⟨u1, u2, u3⟩ := HFIN.out
            rw [u1, u2, u3 rfl, if_neg (by simp), HCC.out, if_neg (by simp)]
          have HEQ := Lib.hid heq
          clear heq
          obtain htest | ⟨-, htest⟩ := htest
          case inr => simp at htest
          go_upto_region 15 with (go_at_call 39; (with_reducible refine (HTN.out wr (Below.refl _ _)).mono ?_); rintro e w5 ⟨A5, c5, rfl, hL5, hb5⟩; have U := Lib.hid (TURN.out w5 A5 c5 hb5 hL5); obtain ⟨x0, x1, x2⟩ := box3 ((hb5.block _ (lt_of HHS.out)).trans HHS.out); have fx := (froz3 ((hb5.block _ (lt_of HHS.out)).trans HHS.out)).2.2; have lx := lt_of ((hb5.block _ (lt_of HHS.out)).trans HHS.out); clear hL5 hb5 y0 y1 z0 z1 lz)

          generalize w5.setCell ⟨p10, 2, none⟩ (.slice A5 i c5) = W6 at *
          clear x0 x1 x2 fx lx
          obtain ⟨x0, x1, x2⟩ := box3 U.out.hst
          have lx := lt_of U.out.hst
          obtain ⟨y0, y1, z0, z1⟩ := box2 U.out.rdr
          have lz := lt_of U.out.rdr
          obtain ⟨s0, s1, s2, s3⟩ := box2 U.out.r2
          have ls := lt_of U.out.r2
          obtain ⟨t0, t1, t2⟩ := box3 U.out.r3
          obtain ⟨f0, f1, f2⟩ := froz3 U.out.r3
          have lt3 := lt_of U.out.r3
          go_upto_region 17 with (go_at_call 23; (with_reducible refine (HCH.out W6 A5 c5 U.out.lev).mono ?_); rintro e w7 ⟨rfl, hb7⟩; have V1 := Lib.hid ((hb7.block _ (lt_of U.out.rdr)).trans U.out.rdr); have V2 := Lib.hid ((hb7.block _ (lt_of U.out.r2)).trans U.out.r2); have V3 := Lib.hid ((hb7.block _ (lt_of U.out.r3)).trans U.out.r3); have V4 := Lib.hid (U.out.hld.below (hb7.mono (Nat.le_trans hB U.out.bel.size))); have V5 := Lib.hid (thn U.out.bel hb7); have V6 := Lib.hid (U.out.lev.grow hb7); have V7 := Lib.hid ((hb7.block _ (lt_of U.out.hst)).trans U.out.hst); clear hb7 x0 x1 x2 lx y0 y1 z0 z1 lz s0 s1 s2 s3 ls t0 t1 t2 f0 f1 f2 lt3; obtain ⟨x0, x1, x2⟩ := box3 V7.out; have lx := lt_of V7.out; obtain ⟨y0, y1, z0, z1⟩ := box2 V1.out; have lz := lt_of V1.out; obtain ⟨s0, s1, s2, s3⟩ := box2 V2.out; have ls := lt_of V2.out; obtain ⟨t0, t1, t2⟩ := box3 V3.out; obtain ⟨f0, f1, f2⟩ := froz3 V3.out; have lt3 := lt_of V3.out)
          have i1 : ¬ p10 = w.heap.size + 1 := by have := HG.out.2.1; omega
          have i2 : ¬ w.heap.size + 1 = p10 := by omega
          have i3 : ¬ p10 = w.heap.size + 1 + 1 := by have := HG.out.2.1; omega
          have i4 : ¬ w.heap.size + 1 + 1 = p10 := by omega
          have i5 : ¬ p8 = w.heap.size + 1 := by have := HG.out.1; omega
          have i6 : ¬ w.heap.size + 1 = p8 := by omega
          have i7 : ¬ p8 = w.heap.size + 1 + 1 := by have := HG.out.1; omega
          have i8 : ¬ w.heap.size + 1 + 1 = p8 := by omega
          go_upto_region 19 with (fail)
          go_region
          all_goals
            go_wp2
            obtain ⟨j1, j2, j3⟩ := fin5 V2.out V3.out (show w.heap.size + 1 ≠ w.heap.size + 1 + 1 by omega) (.slice Ar bi.length cr) (.int .i64 0) (.int .i64 k) (.int .i64 gn) (.slice A5 i c5)
            generalize ((((w7.setCell ⟨w.heap.size + 1, 0, none⟩ (.slice Ar bi.length cr)).setCell ⟨w.heap.size + 1, 1, none⟩ (.int .i64 0)).setCell ⟨w.heap.size + 1 + 1, 0, none⟩ (.int .i64 k)).setCell ⟨w.heap.size + 1 + 1, 1, none⟩ (.int .i64 gn)).setCell ⟨w.heap.size + 1 + 1, 2, none⟩ (.slice A5 i c5) = X at *
            obtain ⟨a0, a1, -, -⟩ := box2 j1
            obtain ⟨d0, d1, d2⟩ := box3 j2
            have j4 : Keep2 (w.heap.size + 1) (w.heap.size + 1 + 1) w7 X.drew := ⟨j3.os, j3.tape, j3.output, j3.size, j3.block⟩
            refine bodyPost_ret (v := .tuple #[.agg #[.slice Ar bi.length cr, .int .i64 0], hv k gn (.slice A5 i c5)]) (by simp [results, Try.results17, go_sem, a0, a1, d0, d1, d2]) rfl ?_
            rw [HEQ.out]
            exact ⟨Ar, cr, _, rfl, V4.out.keep2 j4 (Nat.le_trans hB V5.out.size) (by omega) (by omega), ⟨A5, c5, by rw [HRLL.out], by rw [HRLL.out]; exact Levs.keep2 V6.out j4 V2.out V3.out (by decide)⟩, below_keep2 V5.out j4 (by omega) (by omega)⟩
        · have hc' : ((cc : Int) != 0) = true := by simpa using hc
          have heq : RES = (bi, 2, (0, 0, [])) := by
            rw [HTKR.out]
            obtain ⟨u1, u2, u3⟩ := HFIN.out
            rw [u1, u2, u3 rfl, if_neg (by simp), HCC.out, if_pos hc]
          have HEQ := Lib.hid heq
          clear heq
          obtain htest | ⟨-, htest⟩ := htest
          case inr => simp at htest
          go_upto_region 15 with (go_at_call 39; (with_reducible refine (HTN.out wr (Below.refl _ _)).mono ?_); rintro e w5 ⟨A5, c5, rfl, hL5, hb5⟩; have U := Lib.hid (TURN.out w5 A5 c5 hb5 hL5); obtain ⟨x0, x1, x2⟩ := box3 ((hb5.block _ (lt_of HHS.out)).trans HHS.out); have fx := (froz3 ((hb5.block _ (lt_of HHS.out)).trans HHS.out)).2.2; have lx := lt_of ((hb5.block _ (lt_of HHS.out)).trans HHS.out); clear hL5 hb5 y0 y1 z0 z1 lz)
          generalize w5.setCell ⟨p10, 2, none⟩ (.slice A5 i c5) = W6 at *
          clear x0 x1 x2 fx lx
          obtain ⟨x0, x1, x2⟩ := box3 U.out.hst
          have lx := lt_of U.out.hst
          obtain ⟨y0, y1, z0, z1⟩ := box2 U.out.rdr
          have lz := lt_of U.out.rdr
          obtain ⟨s0, s1, s2, s3⟩ := box2 U.out.r2
          have ls := lt_of U.out.r2
          obtain ⟨t0, t1, t2⟩ := box3 U.out.r3
          obtain ⟨f0, f1, f2⟩ := froz3 U.out.r3
          have lt3 := lt_of U.out.r3
          go_upto_region 16 with (go_at_call 23; (with_reducible refine (HCH.out W6 A5 c5 U.out.lev).mono ?_); rintro e w7 ⟨rfl, hb7⟩; have V1 := Lib.hid ((hb7.block _ (lt_of U.out.rdr)).trans U.out.rdr); have V2 := Lib.hid ((hb7.block _ (lt_of U.out.r2)).trans U.out.r2); have V3 := Lib.hid ((hb7.block _ (lt_of U.out.r3)).trans U.out.r3); have V4 := Lib.hid (U.out.hld.below (hb7.mono (Nat.le_trans hB U.out.bel.size))); have V5 := Lib.hid (thn U.out.bel hb7); have V6 := Lib.hid (U.out.lev.grow hb7); have V7 := Lib.hid ((hb7.block _ (lt_of U.out.hst)).trans U.out.hst); clear hb7 x0 x1 x2 lx y0 y1 z0 z1 lz s0 s1 s2 s3 ls t0 t1 t2 f0 f1 f2 lt3; obtain ⟨x0, x1, x2⟩ := box3 V7.out; have lx := lt_of V7.out; obtain ⟨y0, y1, z0, z1⟩ := box2 V1.out; have lz := lt_of V1.out; obtain ⟨s0, s1, s2, s3⟩ := box2 V2.out; have ls := lt_of V2.out; obtain ⟨t0, t1, t2⟩ := box3 V3.out; obtain ⟨f0, f1, f2⟩ := froz3 V3.out; have lt3 := lt_of V3.out)
          have hp2x : (w7.setCell ⟨p8, 1, none⟩ (.int .i64 2)).heap[w.heap.size + 1]? = _ := (Below.heap_setCell _ _ _ _ (show w.heap.size + 1 ≠ p8 by have := HG.out.1; omega)).trans V2.out
          have hp3x : (w7.setCell ⟨p8, 1, none⟩ (.int .i64 2)).heap[w.heap.size + 1 + 1]? = _ := (Below.heap_setCell _ _ _ _ (show w.heap.size + 1 + 1 ≠ p8 by have := HG.out.1; omega)).trans V3.out
          have hp8x : (w7.setCell ⟨p8, 1, none⟩ (.int .i64 2)).heap[p8]? = some (.cells #[.slice Ar bi.length cr, .int .i64 2] 42) := by
            rw [set1 _ V1.out]
            rfl
          have hhx : Holds (w7.setCell ⟨p8, 1, none⟩ (.int .i64 2)) B (.slice Ar bi.length cr) bi := V4.out.keep fun b o hb => World.cell?_of_block (a := ⟨b, o, none⟩) (Below.heap_setCell _ _ _ _ (show b ≠ p8 by have := HG.out.1; omega))
          have hbx2 : Below w.heap.size w (w7.setCell ⟨p8, 1, none⟩ (.int .i64 2)) := V5.out.setCell (p := ⟨p8, 1, none⟩) (by have := HG.out.1; show w.heap.size ≤ p8; omega) _
          have X2 := Lib.hid hp2x
          have X3' := Lib.hid hp3x
          have X4 := Lib.hid hhx
          have X5 := Lib.hid hbx2
          have X8 := Lib.hid hp8x
          go_upto_region 17 with (fail)
          generalize w7.setCell ⟨p8, 1, none⟩ (.int .i64 2) = W8 at *
          clear hp2x hp3x hhx hbx2 hp8x x0 x1 x2 lx y0 y1 z0 z1 lz s0 s1 s2 s3 ls t0 t1 t2 f0 f1 f2 lt3
          obtain ⟨y0, y1, z0, z1⟩ := box2 X8.out
          have lz := lt_of X8.out
          obtain ⟨s0, s1, s2, s3⟩ := box2 X2.out
          have ls := lt_of X2.out
          obtain ⟨t0, t1, t2⟩ := box3 X3'.out
          obtain ⟨f0, f1, f2⟩ := froz3 X3'.out
          have lt3 := lt_of X3'.out
          go_wp2
          obtain ⟨j1, j2, j3⟩ := fin5 X2.out X3'.out (show w.heap.size + 1 ≠ w.heap.size + 1 + 1 by omega) (.slice Ar bi.length cr) (.int .i64 2) (.int .i64 0) (.int .i64 0) (.slice none 0 0)
          obtain ⟨a0, a1, -, -⟩ := box2 j1
          obtain ⟨d0, d1, d2⟩ := box3 j2
          refine bodyPost_ret (v := .tuple #[.agg #[.slice Ar bi.length cr, .int .i64 2], hv 0 0 (.slice none 0 0)]) (by simp [results, Try.results17, go_sem, a0, a1, d0, d1, d2]) rfl ?_
          rw [HEQ.out]
          exact ⟨Ar, cr, _, rfl, X4.out.keep2 j3 (Nat.le_trans hB X5.out.size) (by omega) (by omega), ToldH.zero _, below_keep2 X5.out j3 (by omega) (by omega)⟩
      · have hei : (ei == 0) = false := by simpa using he
        have hei2 : (ei != 0) = true := by simpa using he
        have heq : RES = (bi, ei, (0, 0, [])) := by
          rw [HTKR.out]
          obtain ⟨u1, u2, -⟩ := HFIN.out
          rw [u1, u2, if_pos he]
        have HEQ := Lib.hid heq
        clear heq
        rcases htest with htest | ⟨htest, -⟩
        all_goals
          go_upto_region 15 with (go_at_call 39; (with_reducible refine (HTN.out wr (Below.refl _ _)).mono ?_); rintro e w5 ⟨A5, c5, rfl, hL5, hb5⟩; have U := Lib.hid (TURN.out w5 A5 c5 hb5 hL5); obtain ⟨x0, x1, x2⟩ := box3 ((hb5.block _ (lt_of HHS.out)).trans HHS.out); have fx := (froz3 ((hb5.block _ (lt_of HHS.out)).trans HHS.out)).2.2; have lx := lt_of ((hb5.block _ (lt_of HHS.out)).trans HHS.out); clear hL5 hb5 y0 y1 z0 z1 lz)
          generalize w5.setCell ⟨p10, 2, none⟩ (.slice A5 i c5) = W6 at *
          clear x0 x1 x2 fx lx
          obtain ⟨x0, x1, x2⟩ := box3 U.out.hst
          have lx := lt_of U.out.hst
          obtain ⟨y0, y1, z0, z1⟩ := box2 U.out.rdr
          have lz := lt_of U.out.rdr
          obtain ⟨s0, s1, s2, s3⟩ := box2 U.out.r2
          have ls := lt_of U.out.r2
          obtain ⟨t0, t1, t2⟩ := box3 U.out.r3
          obtain ⟨f0, f1, f2⟩ := froz3 U.out.r3
          have lt3 := lt_of U.out.r3
          go_wp2
          obtain ⟨j1, j2, j3⟩ := fin5 U.out.r2 U.out.r3 (show w.heap.size + 1 ≠ w.heap.size + 1 + 1 by omega) (.slice Ar bi.length cr) (.int .i64 ei) (.int .i64 0) (.int .i64 0) (.slice none 0 0)
          obtain ⟨a0, a1, -, -⟩ := box2 j1
          obtain ⟨d0, d1, d2⟩ := box3 j2
          refine bodyPost_ret (v := .tuple #[.agg #[.slice Ar bi.length cr, .int .i64 ei], hv 0 0 (.slice none 0 0)]) (by simp [results, Try.results17, go_sem, a0, a1, d0, d1, d2]) rfl ?_
          rw [HEQ.out]
          exact ⟨Ar, cr, _, rfl, U.out.hld.keep2 j3 (Nat.le_trans hB U.out.bel.size) (by omega) (by omega), ToldH.zero _, below_keep2 U.out.bel j3 (by omega) (by omega)⟩
end Go.Proofs.Ytmdknedngiggdaa
end
section
/- The contract of skylightref11.One. -/
namespace Go.Proofs.Ytmdknedngiggdaa
open Go.RowKit Go.Shelf Go.Proofs.Vm Go.Proofs.Rw Go.Proofs.Lh
open Go.Proofs.Rc (takeM oneM)

set_option maxRecDepth 100000 in
set_option maxHeartbeats 4000000 in
theorem one11_any {w : World} {v : Value} {bs : List Int} (h : Holds w w.heap.size v bs) (hok : Rc.okB bs) :
    Calls Try.prog 14 #[v] w fun r w' => ∃ u, r = .returned (.tuple #[u, .int .i64 (oneM bs).2]) ∧ ToldH w' u (oneM bs).1 ∧ Below w.heap.size w w' := by
  have hal := (Below.refl w.heap.size w).alloc (Nat.le_refl _) (.cells #[.int .i64 0, .int .i64 0, .slice none 0 0] 27)
  have hrs := heap_alloc_new w (.cells #[.int .i64 0, .int .i64 0, .slice none 0 0] 27)
  obtain ⟨W0, hW0⟩ : ∃ W, w.alloc (.cells #[.int .i64 0, .int .i64 0, .slice none 0 0] 27) = W := ⟨_, rfl⟩
  rw [hW0] at hal hrs
  have hh0 := h.below hal
  obtain ⟨A, cap, rfl, -, -, -⟩ := h
  have htk := take11_any (w := W0) hal.size hh0 hok 0
  have hone : oneM bs = if rEnd (takeM bs 0).1 (takeM bs 0).2.1 ≠ 0 then ((0, 0, []), rEnd (takeM bs 0).1 (takeM bs 0).2.1) else ((takeM bs 0).2.2, 0) := rfl
  obtain ⟨⟨b', e', m⟩, hx⟩ : ∃ q, takeM bs 0 = q := ⟨_, rfl⟩
  rw [hx] at htk hone
  dsimp only at htk hone
  rw [hone]
  have hend := fun (W : World) (A : Option Addr) (c : Nat) => rfEnd_any W A b'.length c e' b' rfl
  obtain ⟨en, hen⟩ : ∃ q, rEnd b' e' = q := ⟨_, rfl⟩
  rw [hen] at hend ⊢
  obtain ⟨nb, hnb⟩ : ∃ n, b'.length = n := ⟨_, rfl⟩
  rw [hnb] at htk hend
  have HW0 := Lib.hid hW0
  have HAL := Lib.hid hal
  have HRS := Lib.hid hrs
  have HTK := Lib.hid htk
  have HEND := Lib.hid hend
  clear hok hal hrs hW0 htk hone hx hend hen hh0 hnb
  obtain ⟨RES, hRES⟩ : ∃ q, (if en ≠ 0 then (((0, 0, []) : Hm), en) else (m, 0)) = q := ⟨_, rfl⟩
  rw [hRES]
  have HRES := Lib.hid hRES
  clear hRES
  obtain ⟨k, g, ls⟩ := m
  go_enter Try.func14, Try.ntmps14
  go_upto_region 1 with (fail)
  rw [HW0.out]
  clear HW0
  go_upto_region 2 with (go_at_call 17; (with_reducible refine HTK.out.mono ?_); rintro e w1 ⟨A1, c1, v1, rfl, -, ⟨A2, c2, rfl, hL⟩, hb1⟩; dsimp only at hL ⊢; have HL := Lib.hid hL; have HB1 := Lib.hid hb1; clear hL hb1; obtain ⟨n2, hn2⟩ : ∃ n, ls.length = n := ⟨_, rfl⟩; rw [hn2]; have HN2 := Lib.hid hn2; clear hn2)
  obtain ⟨W3, hW3, hz3, p4, p5, hb3⟩ := heap_two w1 (.cells #[.slice A1 nb c1, .int .i64 e'] 42) (.cells #[.int .i64 k, .int .i64 g, .slice A2 n2 c2] 27)
  rw [← hW3]
  have hb13 := HB1.out
  have r2 : W3.heap[w.heap.size]? = some (.cells #[.int .i64 0, .int .i64 0, .slice none 0 0] 27) := by
    have hl := lt_of HRS.out
    have hs := HB1.out.size
    exact (hb3.block _ (by omega)).trans ((HB1.out.block _ hl).trans HRS.out)
  have hl2 : Levs W3 W3.heap.size (.slice A2 n2 c2) ls := by
    have := HL.out.grow hb3
    rwa [HN2.out] at this
  have hb2 : Below w.heap.size w W3 := thn (HAL.out.trans (HB1.out.mono HAL.out.size)) hb3
  obtain ⟨x0, x1, -, -⟩ := box2 p4
  have lh := lt_of p4
  obtain ⟨y0, y1, y2⟩ := box3 p5
  have lp := lt_of p5
  have lr := lt_of r2
  have P5 := Lib.hid p5
  have R2 := Lib.hid r2
  have HL2 := Lib.hid hl2
  have HB2 := Lib.hid hb2
  clear hW3 hz3 p4 p5 hb3 hb13 r2 hl2 hb2 HL HB1 HAL HRS HTK
  by_cases he : en = 0
  · subst he
    rw [if_neg (by simp)] at HRES
    go_wp2_with (go_at_call 33; (with_reducible refine (HEND.out _ _ _).mono ?_); rintro e w5 ⟨rfl, hb5⟩; have V2 := Lib.hid ((hb5.block _ lr).trans R2.out); have V5 := Lib.hid ((hb5.block _ lp).trans P5.out); have VL := Lib.hid (HL2.out.grow hb5); have VB := Lib.hid (thn HB2.out hb5); clear hb5 x0 x1 y0 y1 y2 lh lp lr; obtain ⟨y0, y1, y2⟩ := box3 V5.out; have lp := lt_of V5.out; obtain ⟨t0, t1, t2⟩ := box3 V2.out; obtain ⟨f0, f1, f2⟩ := froz3 V2.out; have lr := lt_of V2.out)
    have j2 := set3 V2.out (.int .i64 k) (.int .i64 g) (.slice A2 n2 c2)
    have j3 := grown3 (W := w5) (b := w.heap.size) (.int .i64 k) (.int .i64 g) (.slice A2 n2 c2)
    have hty := ty_of V2.out
    generalize ((w5.setCell ⟨w.heap.size, 0, none⟩ (.int .i64 k)).setCell ⟨w.heap.size, 1, none⟩ (.int .i64 g)).setCell ⟨w.heap.size, 2, none⟩ (.slice A2 n2 c2) = X at *
    obtain ⟨d0, d1, d2⟩ := box3 j2
    refine bodyPost_ret (v := .tuple #[hv k g (.slice A2 n2 c2), .int .i64 0]) (by simp [results, Try.results14, go_sem, d0, d1, d2]) rfl ?_
    rw [← HRES.out]
    have hlx : Levs X X.heap.size (.slice A2 n2 c2) ls := Levs.keepTy VL.out j3.size fun b hb => by
      rcases hb with hb | hb
      · exact j3.block b hb.lt fun e => by
          injection e with e
          exact hty.ne hb (by decide) e.symm
      · exact j3.block b hb.lt fun e => by
          injection e with e
          exact hty.ne hb (by decide) e.symm
    exact ⟨_, rfl, ⟨A2, c2, by rw [HN2.out], by rw [HN2.out]; exact hlx⟩, VB.out.grown j3 VB.out.size (fun q hq => by cases hq; exact Nat.le_refl _)⟩
  · have he' : (en != 0) = true := by simpa using he
    rw [if_pos he] at HRES
    go_wp2_with (go_at_call 33; (with_reducible refine (HEND.out _ _ _).mono ?_); rintro e w5 ⟨rfl, hb5⟩; have V2 := Lib.hid ((hb5.block _ lr).trans R2.out); have V5 := Lib.hid ((hb5.block _ lp).trans P5.out); have VL := Lib.hid (HL2.out.grow hb5); have VB := Lib.hid (thn HB2.out hb5); clear hb5 x0 x1 y0 y1 y2 lh lp lr; obtain ⟨y0, y1, y2⟩ := box3 V5.out; have lp := lt_of V5.out; obtain ⟨t0, t1, t2⟩ := box3 V2.out; obtain ⟨f0, f1, f2⟩ := froz3 V2.out; have lr := lt_of V2.out)
    have j2 := set3 V2.out (.int .i64 0) (.int .i64 0) (.slice none 0 0)
    have j3 := grown3 (W := w5) (b := w.heap.size) (.int .i64 0) (.int .i64 0) (.slice none 0 0)
    have hty := ty_of V2.out
    generalize ((w5.setCell ⟨w.heap.size, 0, none⟩ (.int .i64 0)).setCell ⟨w.heap.size, 1, none⟩ (.int .i64 0)).setCell ⟨w.heap.size, 2, none⟩ (.slice none 0 0) = X at *
    obtain ⟨d0, d1, d2⟩ := box3 j2
    refine bodyPost_ret (v := .tuple #[hv 0 0 (.slice none 0 0), .int .i64 en]) (by simp [results, Try.results14, go_sem, d0, d1, d2]) rfl ?_
    rw [← HRES.out]
    exact ⟨_, rfl, ToldH.zero _, VB.out.grown j3 VB.out.size (fun q hq => by cases hq; exact Nat.le_refl _)⟩
end Go.Proofs.Ytmdknedngiggdaa
end
