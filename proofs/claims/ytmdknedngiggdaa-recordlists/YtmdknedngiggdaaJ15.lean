/- The contracts of replay.With and of replay.Merge. · The document's With, and Merge. · skylightlaw10.awake: two, of one unit each; and histograms in a literal. · For regions that load two histograms, ask whether they are the same, and lay both into results: facts that last. -/
import Derived.Test.YtmdknedngiggdaaJ14
import Derived.Test.YtmdknedngiggdaaJ08
import Derived.BigQuiet
import Derived.Test.YtmdknedngiggdaaJ13
section
/- The contracts of replay.With and of replay.Merge. -/
namespace Go.Proofs.Ytmdknedngiggdaa
open Go.RowKit Go.Shelf Go.Proofs.Rw Go.Proofs.Lh Go.Proofs.Rn

attribute [local go_sem] Oper.semAt_some

/-- What a merge is asked of: histograms and events that came in. -/
structure Asked (xs : List Hx) (evs : List Ev) : Prop where
  few : xs.length ≤ 16
  fewE : evs.length ≤ 1000
  fits : Fits3 evs
  good : ∀ x ∈ xs, Lh.Good x.m
theorem lgood_len {x : Hx} (h : Lh.Good x.m) : x.ls.length ≤ 60 := Nat.le_trans (h.made.len) (by omega)
theorem lot_count : ∀ (ls : Lv), (lotsTo ls ls.length).length ≤ tot ls := by
  intro ls
  rw [(lots_perm ls).length_eq]
  have h1 : ∀ l : List Sp, (∀ x ∈ l, 1 ≤ x.2) → l.length ≤ (unitsOf l).length := by
    intro l h
    rw [units_len]
    induction l with
    | nil => exact Nat.le_refl _
    | cons x l ih =>
      have := h x List.mem_cons_self
      have := ih fun y hy => h y (List.mem_cons_of_mem _ hy)
      rw [List.map_cons, List.sum_cons, List.length_cons]
      omega
  have h2 := h1 (lumpsOf 0 ls) fun x hx => lumps_pos hx
  rw [lumps_len] at h2
  rw [tot_eq] at h2
  exact h2

theorem lots_few (ls : Lv) (hl : ∀ i, (lev ls i).length ≤ 1026) : ∀ j, (lotsTo ls j).length ≤ 1026 * j
  | 0 => by simp [lotsTo]
  | j + 1 => by
    have h1 := lots_few ls hl j
    have h2 := hl j
    rw [lotsTo_step, List.length_append, List.length_map]
    omega
theorem lots_cap {xs : List Hx} {evs : List Ev} (ha : Asked xs evs) : (lotsP evs (xs.map Hx.m)).length ≤ 1000000 := by
  have key : ∀ ys : List Hx, (∀ y ∈ ys, Lh.Good y.m) → ((ys.map Hx.m).flatMap lotsM).length ≤ 54378 * ys.length := by
    intro ys
    induction ys with
    | nil => intro _; simp
    | cons y ys ih =>
      intro hy
      have h1 := ih fun z hz => hy z (List.mem_cons_of_mem _ hz)
      have hg := hy y List.mem_cons_self
      have h2 := lots_few y.ls (fun i => hg.made.lev i) y.ls.length
      have h3 : y.ls.length ≤ 53 := hg.made.len
      have h4 : (lotsM y.m).length = (lotsTo y.ls y.ls.length).length := rfl
      rw [List.map_cons, List.flatMap_cons, List.length_append, h4, List.length_cons]
      omega
  have h1 := key xs ha.good
  have h2 := ha.few
  have h3 := ha.fewE
  unfold lotsP
  rw [show ((xs.map Hx.m).flatMap fun m => lotsTo m.2.2 m.2.2.length) = (xs.map Hx.m).flatMap lotsM from rfl, List.length_append, List.length_map]
  omega

/-- What is no row of cells is written: levels stay. -/
theorem levs_rec {W W' : World} {v : Value} {ls : Lv} {row : Option Nat} (hL : Levs W W.heap.size v ls) (hg : W.grownBy W' row) (hr : ∀ r, row = some r → ∃ o : Obj, W.heap[r]? = some o ∧ o.isCells = false) : Levs W' W'.heap.size v ls := by
  refine hL.other hg fun b e => ?_
  obtain ⟨o, ho, hc⟩ := hr b e
  constructor
  · rintro ⟨cs, fr, h⟩
    rw [ho] at h
    injection h with h
    subst h
    cases hc
  · rintro ⟨cs, fr, h⟩
    rw [ho] at h
    injection h with h
    subst h
    cases hc
/-- What stands in memory behind k ticks. -/
structure WI (w : World) (p k B : Nat) (all : List Sp) (j : Nat) (W : World) : Prop where
  big : B ≤ W.heap.size
  hist : ∃ (A : Option Addr) (c : Nat), W.heap[p]? = some (.cells #[.int .i64 (k : Int), .int .i64 0, .slice A (upTo k all j).length c] 30) ∧ Levs W W.heap.size (.slice A (upTo k all j).length c) (upTo k all j)
  err : Boxed W (p + 1) 33 (.int .i64 0)
  res : W.heap[w.heap.size]? = some (.cells #[.int .i64 0, .int .i64 0, .slice none 0 0] 30)
  res2 : Boxed W (w.heap.size + 1) 33 (.int .i64 0)
  below : Below w.heap.size w W
theorem WI.own {w : World} {p k B : Nat} {all : List Sp} (hp : p + 1 < B) (hw : w.heap.size + 1 < B) : OwnFrom B (WI w p k B all) := by
  intro j W W' row hs hg hr
  have far : ∀ b, b < B → some b ≠ row := fun b hb e => by have := (hr b e.symm).1; omega
  obtain ⟨A, c, h1, h2⟩ := hs.hist
  refine ⟨Nat.le_trans hs.big hg.size, ⟨A, c, ?_, ?_⟩, hs.err.kept hg (far _ hp), ?_, hs.res2.kept hg (far _ hw), hs.below.grown hg hs.below.size fun j e => by have := (hr j e).1; omega⟩
  · exact (hg.block p (lt_of h1) (far _ (by omega))).trans h1
  · exact levs_rec h2 hg fun r e => (hr r e).2
  · exact (hg.block _ (lt_of hs.res) (far _ (by omega))).trans hs.res
theorem levs_box {W : World} {b : Nat} {x : Value} (h : Boxed W b 33 x) (u : Value) {v : Value} {ls : Lv} (hL : Levs W W.heap.size v ls) : Levs (W.setCell ⟨b, 0, none⟩ u) (W.setCell ⟨b, 0, none⟩ u).heap.size v ls :=
  hL.other (grownBy_setCell' W b u) fun b' e => by
    cases e
    have ht : Ty W 33 b := ⟨_, _, h⟩
    exact ⟨fun h => Ty.ne ht h (by decide) rfl, fun h => Ty.ne ht h (by decide) rfl⟩

/-- What With tells. -/
def WithP (evs : List Ev) (ms : List Hm) (w : World) (e : Ending) (w' : World) : Prop :=
  ∃ (A : Option Addr) (c : Nat), e = hret (hv (outM evs ms).1 (outM evs ms).2.1 (.slice A (outM evs ms).2.2.length c)) (badN evs ms : Int) ∧ Levs w' w'.heap.size (.slice A (outM evs ms).2.2.length c) (outM evs ms).2.2 ∧ Below w.heap.size w w'
end Go.Proofs.Ytmdknedngiggdaa
end
section
/- The document's With, and Merge. -/
namespace Go.Proofs.Lh
open Go.Proofs.Lm (Sp)
theorem lump_flat (ms : List Hm) : ms.flatMap lumpM = ms.flatMap fun m => lumpsOf 0 m.2.2 := rfl
end Go.Proofs.Lh
namespace Go.Proofs.Rw
open Go Go.RowKit
theorem own_addr {w : World} {base n c m : Nat} {A : Option Addr} {e : TypeId} {size : Nat} {cs : List Value} (h : w.ownsRow base e size (.slice A n c) m cs) (h0 : 0 < m) : ∃ g, A = some ⟨g, 0, none⟩ ∧ base ≤ g ∧ g < w.heap.size := by
  rcases h.2 with ⟨_, e⟩ | ⟨g, cap, cur, hv, hb, hg, _⟩
  · omega
  · injection hv with e1 e2 e3
    exact ⟨g, e1, hb, (Array.getElem?_eq_some_iff.1 hg).1⟩
end Go.Proofs.Rw
namespace Go.Proofs.Ytmdknedngiggdaa
open Go.RowKit Go.Shelf Go.Proofs.Rw Go.Proofs.Lh Go.Proofs.Rf

theorem info_bool : (Try.prog.info? 4).map (fun i => (i.zero, i.size, i.bytes)) = some (some (.bool false), 1, 1) := by kernel_rfl
theorem cells_bools (ds : List Bool) : boolL.cells ds = ds.map .bool := by
  induction ds with
  | nil => rfl
  | cons d ds ih => rw [cells_cons, ih]; rfl
theorem made_bools (n : Nat) : (madeCells (Value.bool false).cells (n * 1)).toList = boolL.cells (List.replicate n false) := by
  rw [cells_bools]
  apply List.ext_getElem?
  intro i
  simp only [madeCells, Nat.mul_one]
  by_cases hi : i < n
  · simp [hi, Value.cells, Nat.mod_one]
  · simp [hi]
/-- Whether the row of those that are done is the call's own. -/
abbrev OwnB (w : World) (base : Nat) (v : Value) (ds : List Bool) : Prop := w.ownsRow base 4 1 v ds.length (boolL.cells ds)
theorem own_bool {w : World} {base g c : Nat} {ds : List Bool} (h : OwnB w base (.slice (some ⟨g, 0, none⟩) ds.length c) ds) (m : Nat) : OwnB (w.setCell ⟨g, m, none⟩ (.bool true)) base (.slice (some ⟨g, 0, none⟩) ds.length c) (ds.set m true) ∧ w.grownBy (w.setCell ⟨g, m, none⟩ (.bool true)) (some g) := by
  obtain ⟨h1, h2⟩ := World.ownsRow.stored h m (.bool true)
  refine ⟨?_, h2⟩
  unfold OwnB
  rw [List.length_set, cells_bools, List.map_set, ← cells_bools]
  exact h1

/-- What stands in memory behind the lumps seq. -/
structure RI (w : World) (p b1 b2 k : Nat) (vl vd : Value) (all seq : List Sp) (D : List Bool) (W : World) : Prop where
  lumps : OwnT 130 W b1 vl all
  apart : ∀ b, vl.ownBlock = some b → b < b2
  done : OwnB W b2 vd D
  hist : ∃ (A : Option Addr) (c : Nat), W.heap[p]? = some (.cells #[.int .i64 (k : Int), .int .i64 0, .slice A (foldL k seq).length c] 27) ∧ Levs W W.heap.size (.slice A (foldL k seq).length c) (foldL k seq)
  res : W.heap[w.heap.size]? = some (.cells #[.int .i64 0, .int .i64 0, .slice none 0 0] 27)
  below : Below w.heap.size w W

set_option maxHeartbeats 2000000 in
theorem rwith_bad (xs : List Hx) (evs : List Ev) (ha : Asked xs evs) (hb : badN evs (xs.map Hx.m) ≠ 0) (w : World) (A A2 : Option Addr) (c c2 : Nat) (h : Hs w w.heap.size (.slice A xs.length c) xs) (h2 : Lies evL w w.heap.size (.slice A2 evs.length c2) evs) :
    Calls Try.prog 60 #[.slice A2 evs.length c2, .slice A xs.length c] w fun e w' => e = hret (hv 0 0 (.slice none 0 0)) (badN evs (xs.map Hx.m) : Int) ∧ Below w.heap.size w w' := by
  obtain ⟨W0, hW0⟩ : ∃ W, w.alloc (.cells #[.int .i64 0, .int .i64 0, .slice none 0 0] 27) = W := ⟨_, rfl⟩
  have hB0 : Below w.heap.size w W0 := by rw [← hW0]; exact (Below.refl _ w).alloc (Nat.le_refl _) _
  have p0 : W0.heap[w.heap.size]? = some (.cells #[.int .i64 0, .int .i64 0, .slice none 0 0] 27) := by rw [← hW0]; exact heap_alloc_new w _
  have hno := rbad10_any xs evs ha.few ha.fewE ha.fits (fun x hx => (ha.good x hx).gen4) (fun x hx => ⟨lgood_len (ha.good x hx), (ha.good x hx).made.small⟩) W0 A A2 c c2 ((h.below hB0).mono hB0.size) ((h2.below hB0).mono hB0.size)
  obtain ⟨C, hC⟩ : ∃ C, badN evs (xs.map Hx.m) = C := ⟨_, rfl⟩
  rw [hC] at hb hno ⊢
  have hd : ((C : Int) != 0) = true := by simp; omega
  have HNO := Lib.hid hno
  have HB0 := Lib.hid hB0
  have HP0 := Lib.hid p0
  have HW0 := Lib.hid hW0
  clear hno hB0 p0 hC h h2 hW0 ha
  go_enter Try.func60, Try.ntmps60
  go_wp2_with (go_at_call 79; rw [HW0.out]; refine HNO.out.mono ?_; rintro e w1 ⟨rfl, hb1⟩; have hq := (hb1.block w.heap.size (lt_of HP0.out)).trans HP0.out; obtain ⟨q0, q1, q2⟩ := box3 hq; have f0 : ∀ i, w1.frozen? ⟨w.heap.size, i, none⟩ = false := (fun i => by simp [World.frozen?, hq]); have lq := lt_of hq; have HB1 := Lib.hid (thn HB0.out hb1); have HQ := Lib.hid hq; clear hb1 hq)
  obtain ⟨y0, y1, y2⟩ := box3 (set3 HQ.out (.int .i64 0) (.int .i64 0) (.slice none 0 0))
  refine bodyPost_ret (v := .tuple #[hv 0 0 (.slice none 0 0), .int .i64 C]) (by simp [results, Try.results60, go_sem, y0, y1, y2]) rfl ⟨rfl, ?_⟩
  exact below3 HB1.out (b := w.heap.size) (Nat.le_refl _) _ _ _

set_option maxRecDepth 100000 in
set_option maxHeartbeats 8000000 in
theorem rwith_ok (xs : List Hx) (evs : List Ev) (ha : Asked xs evs) (hb : badN evs (xs.map Hx.m) = 0) (w : World) (A A2 : Option Addr) (c c2 : Nat) (h : Hs w w.heap.size (.slice A xs.length c) xs) (h2 : Lies evL w w.heap.size (.slice A2 evs.length c2) evs) :
    Calls Try.prog 60 #[.slice A2 evs.length c2, .slice A xs.length c] w fun e w' => ∃ (A' : Option Addr) (c' : Nat), e = hret (hv (kOne (xs.map Hx.m)) (gmax (xs.map Hx.m) + 1) (.slice A' (mergeL (kOne (xs.map Hx.m)).toNat (lumpAll evs (xs.map Hx.m))).length c')) 0 ∧
      Levs w' w'.heap.size (.slice A' (mergeL (kOne (xs.map Hx.m)).toNat (lumpAll evs (xs.map Hx.m))).length c') (mergeL (kOne (xs.map Hx.m)).toNat (lumpAll evs (xs.map Hx.m))) ∧ Below w.heap.size w w' := by
  obtain ⟨W0, hW0⟩ : ∃ W, w.alloc (.cells #[.int .i64 0, .int .i64 0, .slice none 0 0] 27) = W := ⟨_, rfl⟩
  have hB0 : Below w.heap.size w W0 := by rw [← hW0]; exact (Below.refl _ w).alloc (Nat.le_refl _) _
  have p0 : W0.heap[w.heap.size]? = some (.cells #[.int .i64 0, .int .i64 0, .slice none 0 0] 27) := by rw [← hW0]; exact heap_alloc_new w _
  have hno := rbad10_any xs evs ha.few ha.fewE ha.fits (fun x hx => (ha.good x hx).gen4) (fun x hx => ⟨lgood_len (ha.good x hx), (ha.good x hx).made.small⟩) W0 A A2 c c2 ((h.below hB0).mono hB0.size) ((h2.below hB0).mono hB0.size)
  rw [hb] at hno
  obtain ⟨hb1, hb2, hb3, hb4, hb5, hb6⟩ := badN_zero hb
  have hx0 : 0 < xs.length := by simpa using hb1
  obtain ⟨bx, ox, rfl, hbx, -, hcx⟩ := h.at hx0
  obtain ⟨e0, -, -, -⟩ := hcx 0 hx0
  have hk1 : xs[0].k = kOne (xs.map Hx.m) := by
    cases xs with
    | nil => simp at hx0
    | cons x xs => rfl
  have hkg := fun x (hx : x ∈ xs) => ha.good x hx
  have hmay : may (kOne (xs.map Hx.m)) = true := by
    obtain ⟨m, hm, e⟩ := kOne_mem hb1
    obtain ⟨x, hx, rfl⟩ := List.mem_map.1 hm
    have hg := hkg x hx
    have := may_of hg.made.k2 hg.made.k1
    rw [Int.toNat_of_nonneg hg.pos] at this
    rw [← e]
    exact this
  have hFine := fun (L : List Sp) (h1 : L.Perm (lumpAll evs (xs.map Hx.m))) (h2 : L.Pairwise fun x y => x.1 ≤ y.1) => fine_all hb (fun m hm => by
    obtain ⟨x, hx, rfl⟩ := List.mem_map.1 hm
    exact hkg x hx) h1 h2
  obtain ⟨k, hk⟩ : ∃ k : Nat, kOne (xs.map Hx.m) = (k : Int) := ⟨(kOne (xs.map Hx.m)).toNat, by have := of_decide_eq_true hmay; omega⟩
  rw [hk, Int.toNat_natCast] at hFine
  rw [hk1, hk] at e0
  rw [hk]
  simp only [Nat.zero_mul, Nat.add_zero] at e0
  have hcap : (lumpAll evs (xs.map Hx.m)).length ≤ 1000000 := by
    have := lots_cap ha
    rw [(lotsP_perm evs (xs.map Hx.m)).length_eq] at this
    exact this
  have hlum := fun (W : World) (hW : Below w.heap.size w W) => lumps_any xs (by have := ha.few; omega) (fun x hx => ⟨lgood_len (hkg x hx), fun i => by have := (hkg x hx).made.lev i; exact Nat.le_trans this (by omega)⟩) (by
    have e : lumpAll evs (xs.map Hx.m) = (xs.map Hx.m).flatMap lumpM ++ evs.map lumpE := rfl
    rw [e, List.length_append] at hcap
    omega) W (some ⟨bx, ox, none⟩) c ((h.below hW).mono hW.size)
  have hgstep : ∀ (j : Nat) (hj : j < xs.length), gmax ((xs.map Hx.m).take (j + 1)) = max (gmax ((xs.map Hx.m).take j)) xs[j].g := by
    intro j hj
    rw [gmax_take (ms := xs.map Hx.m) (i := j) (by simpa using hj), List.getElem_map]
    rfl
  have hgle : ∀ j, gmax ((xs.map Hx.m).take j) ≤ 4 := fun j => gmax_le (by omega) (fun m hm' => by
    obtain ⟨x, hx, rfl⟩ := List.mem_map.1 (List.mem_of_mem_take hm')
    exact (hkg x hx).gen4)
  have hAll : lumpAll evs (xs.map Hx.m) = (xs.map Hx.m).flatMap lumpM ++ evs.map lumpE := rfl
  have hml : (xs.map Hx.m).length = xs.length := by simp
  obtain ⟨ms, hms⟩ : ∃ ms, xs.map Hx.m = ms := ⟨_, rfl⟩
  rw [hms] at hml hb4
  simp only [hms] at hFine hcap hlum hgstep hgle hAll ⊢
  obtain ⟨all, hal⟩ : ∃ all, lumpAll evs ms = all := ⟨_, rfl⟩
  rw [hal] at hcap hAll ⊢
  simp only [hal] at hFine
  obtain ⟨G, hG⟩ : ∃ G, gmax ms = G := ⟨_, rfl⟩
  rw [hG] at hb4 ⊢
  have hG0 : 0 ≤ G := by rw [← hG]; exact gmax_nonneg _
  obtain ⟨N, hN⟩ : ∃ N, xs.length = N := ⟨_, rfl⟩
  obtain ⟨N2, hN2⟩ : ∃ N, evs.length = N := ⟨_, rfl⟩
  have hN16 : N ≤ 16 := by rw [← hN]; exact ha.few
  have hN1000 : N2 ≤ 1000 := by rw [← hN2]; exact ha.fewE
  have HNO := Lib.hid hno
  have HB0 := Lib.hid hB0
  have HP0 := Lib.hid p0
  have HW0 := Lib.hid hW0
  have HF := Lib.hid hFine
  have HCAP := Lib.hid hcap
  have HLUM := Lib.hid hlum
  have HGS := Lib.hid hgstep
  have HGL := Lib.hid hgle
  have HALL := Lib.hid hAll
  have HML := Lib.hid hml
  have HGG := Lib.hid hG
  have HN := Lib.hid hN
  have HN2 := Lib.hid hN2
  have HH := Lib.hid h
  have HE := Lib.hid h2
  rw [hN] at HH
  rw [hN2] at HE
  rw [hN] at hx0
  simp only [hN, hN2] at HNO HLUM ⊢
  clear hno hB0 p0 hW0 hFine hcap hlum hgstep hgle hAll hml hG hN hN2 h h2 hcx hkg hmay hb1 hb2 hb3 hb5 hb6 hk1 hk ha hb hms hal
  go_enter Try.func60, Try.ntmps60
  go_wp2_with (go_at_call 79; rw [HW0.out]; refine HNO.out.mono ?_; rintro e w1 ⟨rfl, hw1⟩; have hq := (hw1.block w.heap.size (lt_of HP0.out)).trans HP0.out; have HB1 := Lib.hid (thn HB0.out hw1); have HZ1 := Lib.hid (Nat.lt_of_lt_of_le (lt_of HP0.out) hw1.size); have e1 := (HB1.out.cell (p := ⟨bx, ox, none⟩) hbx).trans e0; have lbx : bx < w1.heap.size := Nat.lt_of_lt_of_le hbx HB1.out.size; have HQ := Lib.hid hq; clear hw1 hq)
  obtain ⟨W2, hW2⟩ : ∃ W, w1.alloc (.cells #[.int .i64 (k : Int), .int .i64 0, .slice none 0 0] 27) = W := ⟨_, rfl⟩
  have hB2 : Below w1.heap.size w1 W2 := by rw [← hW2]; exact (Below.refl _ w1).alloc (Nat.le_refl _) _
  have q2 : W2.heap[w1.heap.size]? = some (.cells #[.int .i64 (k : Int), .int .i64 0, .slice none 0 0] 27) := by rw [← hW2]; exact heap_alloc_new w1 _
  have hz2 : W2.heap.size = w1.heap.size + 1 := by rw [← hW2]; simp
  rw [hW2]
  have HB2 := Lib.hid (thn HB1.out hB2)
  have HP2 := Lib.hid q2
  have HR2 := Lib.hid ((hB2.block _ HZ1.out).trans HQ.out)
  have HZ2 := Lib.hid hz2
  have HPW := Lib.hid HZ1.out
  obtain ⟨p, hp⟩ : ∃ p, w1.heap.size = p := ⟨_, rfl⟩
  rw [hp] at HP2 HZ2 HPW ⊢
  clear q2 hz2 hB2 hW2 e1 e0 HZ1 HQ HNO HB0 HP0 HW0 hp lbx HB1
  go_loop [8, 9] (fun g i => ∃ j : Nat, i = .int .i64 (j : Int) ∧ j ≤ N ∧ g = .int .i64 (gmax (ms.take j))) (fun _ i => N - (intOf i).toNat)
  case atStart => exact ⟨0, rfl, Nat.zero_le _, by simp [gmax]⟩
  case round =>
    obtain ⟨j, rfl, hj, rfl⟩ := hrel
    by_cases hlt : j < N
    · have hjl : j < xs.length := by rw [HN.out]; exact hlt
      obtain ⟨b3, off3, e3, hb3, -, hc3⟩ := (HH.out.below HB2.out).at (by omega)
      injection e3 with e3
      injection e3 with e31 e32
      subst e31 e32
      obtain ⟨e0, e1, e2, -⟩ := hc3 j hjl
      have hgj := HGS.out j hjl
      have hg4 := HGL.out j
      have hg0 := gmax_nonneg (ms.take j)
      obtain ⟨Gj, hGj⟩ : ∃ g, gmax (ms.take j) = g := ⟨_, rfl⟩
      rw [hGj] at hgj hg4 hg0 ⊢
      have hgle := HGL.out (j + 1)
      rw [hgj] at hgle
      generalize xs[j].k = t0 at *
      generalize xs[j].g = t1 at *
      have hbb : bx < W2.heap.size := Nat.lt_of_lt_of_le hbx HB2.out.size
      have HGJ := Lib.hid hgj
      clear hc3 hgj hGj hjl e2 hgle
      go_wp2
      refine ⟨⟨j + 1, by go_num, hlt, by first | (rw [HGJ.out]; done) | (rw [HGJ.out]; congr 1; split <;> omega)⟩, by simp [intOf]; omega⟩
    · have e : j = N := by omega
      subst e
      have hgm : gmax (ms.take j) = G := by
        have := HML.out
        rw [HN.out] at this
        rw [← this, List.take_length]
        exact HGG.out
      rw [hgm]
      have hlw := HLUM.out W2 HB2.out
      have HLW := Lib.hid hlw
      clear hgm hlw HLUM HGS HGL HGG
      go_wp2_with (go_at_call 80; refine HLW.out.mono ?_; rintro e w3 ⟨v, rfl, hlo, hb3⟩; have HLO := Lib.hid hlo; have HB3 := Lib.hid hb3; clear hlo hb3)
      obtain ⟨P0, hP0⟩ : ∃ P, ms.flatMap lumpM = P := ⟨_, rfl⟩
      rw [hP0] at HLO HALL
      clear hP0
      go_loopw [10, 11] (fun v q wr => ∃ i : Nat, q = .int .i64 (i : Int) ∧ i ≤ N2 ∧ Hid (OwnT 130 wr W2.heap.size v (P0 ++ (evs.take i).map lumpE)) ∧ Hid (Below W2.heap.size W2 wr)) (fun _ q _ => N2 - (intOf q).toNat)
      case atStart => exact ⟨0, rfl, Nat.zero_le _, Lib.hid (by have := HLO.out; simpa using this), HB3⟩
      case round =>
        obtain ⟨i, rfl, hi, HO2, HBR⟩ := hrel
        obtain ⟨P2, hP2⟩ : ∃ P, P0 ++ (evs.take i).map lumpE = P := ⟨_, rfl⟩
        rw [hP2] at HO2
        obtain ⟨A1, c1, rfl, -, -⟩ := own_form HO2.out
        by_cases hit : i < N2
        · have hil : i < evs.length := by rw [HN2.out]; exact hit
          obtain ⟨b4, off4, rfl, hb4, -, hc4⟩ := ev_at ((HE.out.below HB2.out).keep fun b hb => HBR.out.block b (Nat.lt_of_lt_of_le hb HB2.out.size)) (by omega)
          obtain ⟨g0, g1, g2⟩ := hc4 i hil
          have hbd : P2.length + 1 ≤ 1000000 := by
            have h1 := HCAP.out
            rw [HALL.out, List.length_append, List.length_map] at h1
            rw [← hP2, List.length_append, List.length_map, List.length_take]
            omega
          have hnx := map_take1 lumpE hil
          obtain ⟨x, hx⟩ : ∃ x, evs[i] = x := ⟨_, rfl⟩
          rw [hx] at g0 g1 g2 hnx
          have hnx2 : P0 ++ (evs.take (i + 1)).map lumpE = P2 ++ [(x.1, x.2.2)] := by rw [hnx, ← List.append_assoc, hP2]; rfl
          have hbb4 : b4 < wr.heap.size := Nat.lt_of_lt_of_le hb4 (Nat.le_trans HB2.out.size HBR.out.size)
          have HBD := Lib.hid hbd
          have HNX := Lib.hid hnx2
          clear hc4 hbd hnx hnx2 hP2 hx hil
          go_upto_region 14 with (fail)
          go_region_law ((refine step_app 130 _ 16 info_lump Try.underlying125 (by rfl) (by decide) (by decide) (by rfl) _ _ (by rfl) W2.heap.size _ _ P2 [(x.1, x.2.2)] _ (by rfl) (World.ownsRow.alloc (World.ownsRow.drew HO2.out) _) (by rfl) (lit_lump' _ _ _ (by rfl) x.1 x.2.2 _ (by rfl)) (sp_one _) (by have := HBD.out; simp; omega) (by have := HBR.out.size; simp; omega) ?_; intro v' w4 ho4 hg4))
          all_goals
            replace ho4 : OwnT 130 w4 W2.heap.size v' (P2 ++ [(x.1, x.2.2)]) := ho4
            have HO5 := Lib.hid ho4
            have HG5 := Lib.hid hg4
            clear ho4 hg4
            go_wp2
            refine ⟨⟨i + 1, by go_num, hit, Lib.hid ?_, Lib.hid ?_⟩, by simp [intOf]; omega⟩
            · rw [HNX.out]
              exact HO5.out
            · exact (HBR.out.drew.alloc (by have := HBR.out.size; simp; omega) _).grown HG5.out (by have := HBR.out.size; simp; omega) (fun q hq => (HO2.out.lt q hq).1)
        · have e : i = N2 := by omega
          subst e
          rw [List.take_of_length_le (by rw [HN2.out]; exact Nat.le_refl _), ← HALL.out] at hP2
          subst hP2
          obtain ⟨n, hn⟩ : ∃ n, all.length = n := ⟨_, rfl⟩
          have hn6 : n ≤ 1000000 := by rw [← hn]; exact HCAP.out
          rw [hn]
          have HLN := Lib.hid hn
          obtain ⟨i0, hi0, hz0, hz1, hz3⟩ := info_parts info_bool
          have HHI := Lib.hid (HP2.out)
          clear hn HALL HN HN2 HML HLW HLO HB3
          rename World => wo
          go_wp2_with (at_make; refine wpList_make_full _ rfl _ _ 131 rfl wo.heap.size 4 i0 _ 1 Try.underlying131 hi0 hz0 hz1 .i64 .i64 _ _ n rfl rfl rfl rfl (by rw [hz3]; omega) (by unfold maxLen; omega) (Nat.le_refl _) ?_; intro wm hownm hgm)
          have hbm : Below wo.heap.size wo wm := ⟨hgm.os, hgm.tape, hgm.output, hgm.size, fun b hb => hgm.block b hb (by simp)⟩
          have hownb : OwnB wm wo.heap.size (.slice (some ⟨wo.heap.size, 0, none⟩) n n) (List.replicate n false) := by
            have e := hownm
            rw [made_bools] at e
            unfold OwnB
            rw [List.length_replicate]
            exact e
          have hpo : p < wo.heap.size := Nat.lt_of_lt_of_le (lt_of HP2.out) HBR.out.size
          have hpb : ∀ b, (Value.slice A1 n c1).ownBlock = some b → b < wo.heap.size ∧ p < b := fun b hbb => by
            have := HO2.out.lt b (by rw [HLN.out]; exact hbb)
            have := HZ2.out
            omega
          have hri : RI w p W2.heap.size wo.heap.size k (.slice A1 all.length c1) (.slice (some ⟨wo.heap.size, 0, none⟩) n n) all [] (List.replicate n false) wm := by
            refine ⟨own_below HO2.out hbm, fun b hbb => (hpb b (by rw [HLN.out] at hbb; exact hbb)).1, hownb, ⟨none, 0, ?_, Levs.nil⟩, ?_, thn HB2.out (thn HBR.out hbm)⟩
            · exact (hbm.block p hpo).trans ((HBR.out.block p (lt_of HP2.out)).trans HP2.out)
            · exact (hbm.block _ (by have := HPW.out; omega)).trans ((HBR.out.block _ (lt_of HR2.out)).trans HR2.out)
          have hpk : Pick all [] (List.replicate n false) := by
            have := Pick.start all
            rw [HLN.out] at this
            exact this
          obtain ⟨bd, hbd⟩ : ∃ b, wo.heap.size = b := ⟨_, rfl⟩
          rw [hbd] at hri hpo hpb ⊢
          have HRI0 := Lib.hid hri
          have HPK0 := Lib.hid hpk
          have HPB := Lib.hid hpb
          clear hri hpk hownb hownm hgm hbm hpb HO2 HBR HHI hbd
          go_loopw [13] (fun q wr => ∃ (i : Nat) (seq : List Sp) (D : List Bool), q = .int .i64 (i : Int) ∧ i ≤ n ∧ seq.length = i ∧ Hid (Pick all seq D) ∧ Hid (RI w p W2.heap.size bd k (.slice A1 all.length c1) (.slice (some ⟨bd, 0, none⟩) n n) all seq D wr)) (fun q _ => n - (intOf q).toNat)
          case atStart => exact ⟨0, [], _, rfl, Nat.zero_le _, rfl, HPK0, HRI0⟩
          case round =>
            clear HRI0 HPK0
            obtain ⟨i, seq, D, rfl, hi, hsl, HPK, HRI⟩ := hrel
            obtain ⟨Ah, ch, hh, hL⟩ := HRI.out.hist
            by_cases hlt : i < n
            · obtain ⟨bl, rfl, hbl1, hbl2⟩ := own_addr HRI.out.lumps (by rw [HLN.out]; omega)
              have hdl : D.length = n := by rw [HPK.out.len, HLN.out]
              have hle := leftN_any all D (by rw [HLN.out]; omega) (by rw [hdl, HLN.out]) wr wr.heap.size (Nat.le_refl _) (some ⟨bl, 0, none⟩) (some ⟨bd, 0, none⟩) c1 n (by
                exact Lies.of_own (L := spL) HRI.out.lumps) (by
                have := Lies.of_own (L := boolL) HRI.out.done
                rw [hdl]
                exact this)
              rw [HLN.out, hdl] at hle
              have hleft := HPK.out.left (by rw [hsl, HLN.out]; exact hlt)
              rw [HLN.out] at hleft
              have hpick : ∀ a, LeastAt all D n a → ∃ m : Nat, a = (m : Int) ∧ m < n ∧ D[m]? = some false ∧ ∀ i, i < n → D[i]? = some false → (all.getD m (0, 0)).1 ≤ (all.getD i (0, 0)).1 := by
                rintro a (⟨_, hh⟩ | hh)
                · exact absurd hh hleft
                · exact hh
              have HLE := Lib.hid hle
              have HPI := Lib.hid hpick
              have hdc : ∀ m, m < n → (∃ u, wr.cell? ⟨bd, m, none⟩ = some u) ∧ wr.frozen? ⟨bd, m, none⟩ = false := by
                intro m hm
                have ho := HRI.out.done
                have e := World.ownsRow.cellAt (n := D.length) (cap := n) (by rw [← hdl] at ho; rw [← hdl]; exact ho) m (by rw [hdl]; omega)
                rw [List.getElem?_eq_getElem (by rw [cells_len, hdl]; show m < n * 1; omega)] at e
                exact ⟨⟨_, e⟩, World.ownsRow.frozenAt (n := D.length) (cap := n) (by rw [← hdl] at ho; rw [← hdl]; exact ho) _⟩
              have hbdl : bd < wr.heap.size := (HRI.out.done.lt bd rfl).2
              have HDC := Lib.hid hdc
              clear hle hleft hpick hdc hh hL
              go_upto_region 21 with (go_at_call 81; refine HLE.out.mono ?_; rintro e w3 ⟨a, rfl, hla, hb3⟩; obtain ⟨m, rfl, hm, hdm, hmin⟩ := HPI.out a hla; obtain ⟨⟨u0, hu0⟩, hf0⟩ := HDC.out m hm; have u1 := (hb3.cell (p := ⟨bd, m, none⟩) hbdl).trans hu0; have f1 : w3.frozen? ⟨bd, m, none⟩ = false := (by have := hb3.block bd hbdl; simp only [World.frozen?] at hf0 ⊢; rw [this]; exact hf0); have hb3l : bd < w3.heap.size := Nat.lt_of_lt_of_le hbdl hb3.size; have HB3 := Lib.hid hb3; have HDM := Lib.hid hdm; have HMIN := Lib.hid hmin; clear hla hb3 hdm hmin hu0 hf0)
              obtain ⟨w4, hw4⟩ : ∃ W, w3.setCell ⟨bd, m, none⟩ (.bool true) = W := ⟨_, rfl⟩
              have hpbd : p < bd := hpo
              have hne : bl ≠ bd := by have := HRI.out.apart bl rfl; omega
              have hpbl : p ≠ bl := by have := HZ2.out; omega
              have hl3 := own_below HRI.out.lumps HB3.out
              have hd3 := own_below HRI.out.done HB3.out
              have hD : D.length = n := hdl
              obtain ⟨hd4, hg4⟩ := own_bool (c := n) (by rw [hD]; exact hd3) m
              rw [hD] at hd4
              have hl4 := World.ownsRow.kept hl3 hg4 (.inr (by show some bl ≠ some bd; simpa using hne))
              obtain ⟨Ah, ch, hh, hL⟩ := HRI.out.hist
              have hh3 := (HB3.out.block p (lt_of hh)).trans hh
              have hh4 := (hg4.block p (lt_of hh3) (by simp; omega)).trans hh3
              have hL4 := (hL.grow HB3.out).other hg4 fun b e => by
                cases e
                have ht : Ty w3 4 bd := by
                  rcases hd3.2 with ⟨e, _⟩ | ⟨g', cap, cur, e, _, hgb, _⟩
                  · cases e
                  · injection e with e1 e2 e3
                    injection e1 with e1
                    injection e1 with e1
                    subst e1
                    exact ⟨_, _, hgb⟩
                exact ⟨fun h => Ty.ne ht h (by decide) rfl, fun h => Ty.ne ht h (by decide) rfl⟩
              have hr4 := (hg4.block _ (lt_of ((HB3.out.block _ (lt_of HRI.out.res)).trans HRI.out.res)) (by simp; have := HPW.out; omega)).trans ((HB3.out.block _ (lt_of HRI.out.res)).trans HRI.out.res)
              have hb4 : Below w.heap.size w (w3.setCell ⟨bd, m, none⟩ (.bool true)) := (thn HRI.out.below HB3.out).setCell (p := ⟨bd, m, none⟩) (by simp; have := HPW.out; omega) _
              have hml : m < all.length := by rw [HLN.out]; exact hm
              obtain ⟨bq, oq, hA, -, -, hcq⟩ := sp_at (Lies.of_own (L := spL) hl4) (by omega)
              injection hA with hA
              injection hA with hA1 hA2
              subst hA1 hA2
              obtain ⟨c0, c1'⟩ := hcq m hml
              simp only [Nat.zero_add] at c0 c1'
              obtain ⟨hn1, hn2, hn3, hn4⟩ := HPK.out.next HF.out hml HDM.out (by rw [HLN.out]; exact HMIN.out)
              have hgd : all.getD m (0, 0) = all[m] := by simp [List.getD, List.getElem?_eq_getElem hml]
              rw [hgd] at hn1 hn2 hn4
              obtain ⟨x, hx⟩ : ∃ x, all[m] = x := ⟨_, rfl⟩
              rw [hx] at c0 c1' hn1 hn2 hn4
              obtain ⟨tk, htk⟩ : ∃ t, x.1 = t := ⟨_, rfl⟩
              obtain ⟨wt, hwt⟩ : ∃ t, x.2 = t := ⟨_, rfl⟩
              have hsn := foldL_snoc k seq x
              rw [htk, hwt] at hn2 hsn
              rw [htk] at c0
              rw [hwt] at c1' hn4
              obtain ⟨R, hR⟩ : ∃ R, foldL k (seq ++ [x]) = R := ⟨_, rfl⟩
              rw [hR] at hsn
              rw [hw4] at hd4 hl4 hh4 hL4 hr4 hb4 hg4 c0 c1' ⊢
              obtain ⟨nL, hnL⟩ : ∃ nL, (foldL k seq).length = nL := ⟨_, rfl⟩
              rw [hnL] at hh4 hL4
              have hadd : ∀ W, Below w4.heap.size w4 W → Calls Try.prog 46 #[.agg #[.int .i64 (k : Int), .int .i64 0, .slice Ah nL ch], .int .u64 (tk : Int), .int .u64 (wt : Int)] W fun e w' => ∃ A' c', e = .returned (.tuple #[.agg #[.int .i64 (k : Int), .int .i64 0, .slice A' R.length c'], .int .i64 0]) ∧ Levs w' w'.heap.size (.slice A' R.length c') R ∧ Below W.heap.size W w' := by
                intro W hW
                have := radd_ok k 0 (foldL k seq) hn3 tk wt hn2 W Ah ch (by rw [hnL]; exact hL4.grow hW)
                rw [hnL, ← hsn] at this
                refine this.mono ?_
                rintro e w' ⟨v, rfl, hLv, hbv⟩
                obtain ⟨A', c', rfl, -, -, hLv'⟩ := hLv.form
                exact ⟨A', c', rfl, hLv', hbv⟩
              obtain ⟨x0, x1, x2⟩ := box3 hh4
              have lp4 := lt_of hh4
              have lbl : bl < w4.heap.size := (hl4.lt bl rfl).2
              have H0 := Lib.hid x0
              have H1 := Lib.hid x1
              have H2 := Lib.hid x2
              have HLH := Lib.hid lp4
              have HLD := Lib.hid lbl
              have HD0 := Lib.hid c0
              have HD1 := Lib.hid c1'
              have HADD := Lib.hid hadd
              have HBX := Lib.hid hh4
              have HL4 := Lib.hid hl4
              have HD4 := Lib.hid hd4
              have HR4 := Lib.hid hr4
              have HB4 := Lib.hid hb4
              have HN1 := Lib.hid hn1
              have HRR := Lib.hid hR
              have hAp := HRI.out.apart
              have HAP := Lib.hid hAp
              clear x0 x1 x2 lp4 lbl c0 c1' hadd hh4 hl4 hd4 hr4 hb4 hn1 hn2 hn3 hn4 hsn hgd hcq hl3 hd3 hg4 hL4 hh3 hh hL HPI HDC HLE HPK HRI HMIN HDM u1 f1 hw4 hx htk hwt hnL hR hAp HB3 hdl hbl2 hb3l
              refine region_all (fr := ?frA) (fun i us W => match i with
                  | 0 => us 0 = .agg #[.int .i64 (k : Int), .int .i64 0, .slice Ah nL ch]
                  | 1 => us 1 = .slice (some ⟨bl, 0, none⟩) n c1
                  | 2 => us 2 = .int .i64 (m : Int)
                  | 3 => us 3 = .pointer (some ⟨bl, m * 2, none⟩)
                  | 4 => us 4 = .pointer (some ⟨bl, m * 2, none⟩)
                  | 5 => us 5 = .int .u64 (tk : Int)
                  | 6 => us 6 = .slice (some ⟨bl, 0, none⟩) n c1
                  | 7 => us 7 = .int .i64 (m : Int)
                  | 8 => us 8 = .pointer (some ⟨bl, m * 2, none⟩)
                  | 9 => us 9 = .pointer (some ⟨bl, m * 2 + 1, none⟩)
                  | 10 => us 10 = .int .u64 (wt : Int)
                  | 11 => Tp k 0 R (us 11) W
                  | 12 => Tp k 0 R (us 12) W
                  | 13 => Hp k R (us 13) W
                  | 14 => us 14 = .int .i64 0
                  | 15 => Nw3 27 w4.heap.size (us 15) W
                  | 16 => Yb3 27 w4.heap.size k R (us 15) W
                  | 17 => us 17 = .int .i64 0
                  | _ => True) (fun j W W' => Ea 27 w4.heap.size 16 j W W') (fun W => Below w4.heap.size w4 W) rfl ?hBA ?hfrA ?hlocA ?hstA ?hG0A ?hGA ?hopA ?hendA
              case hBA => kernel_rfl
              case hfrA =>
                intro us
                simp only [List.length_cons, List.length_nil, Nat.zero_add, Nat.reduceAdd, putO, dstO]
                go_simp
                rfl
              case hlocA =>
                intro i us us' W h hf
                match i with
                | 0 =>
                  have e0 := h 0 (.inl rfl)
                  try dsimp only at hf ⊢
                  rw [e0] at hf
                  exact hf
                | 1 =>
                  have e1 := h 1 (.inl rfl)
                  try dsimp only at hf ⊢
                  rw [e1] at hf
                  exact hf
                | 2 =>
                  have e2 := h 2 (.inl rfl)
                  try dsimp only at hf ⊢
                  rw [e2] at hf
                  exact hf
                | 3 =>
                  have e3 := h 3 (.inl rfl)
                  try dsimp only at hf ⊢
                  rw [e3] at hf
                  exact hf
                | 4 =>
                  have e4 := h 4 (.inl rfl)
                  try dsimp only at hf ⊢
                  rw [e4] at hf
                  exact hf
                | 5 =>
                  have e5 := h 5 (.inl rfl)
                  try dsimp only at hf ⊢
                  rw [e5] at hf
                  exact hf
                | 6 =>
                  have e6 := h 6 (.inl rfl)
                  try dsimp only at hf ⊢
                  rw [e6] at hf
                  exact hf
                | 7 =>
                  have e7 := h 7 (.inl rfl)
                  try dsimp only at hf ⊢
                  rw [e7] at hf
                  exact hf
                | 8 =>
                  have e8 := h 8 (.inl rfl)
                  try dsimp only at hf ⊢
                  rw [e8] at hf
                  exact hf
                | 9 =>
                  have e9 := h 9 (.inl rfl)
                  try dsimp only at hf ⊢
                  rw [e9] at hf
                  exact hf
                | 10 =>
                  have e10 := h 10 (.inl rfl)
                  try dsimp only at hf ⊢
                  rw [e10] at hf
                  exact hf
                | 11 =>
                  have e11 := h 11 (.inl rfl)
                  try dsimp only at hf ⊢
                  rw [e11] at hf
                  exact hf
                | 12 =>
                  have e12 := h 12 (.inl rfl)
                  try dsimp only at hf ⊢
                  rw [e12] at hf
                  exact hf
                | 13 =>
                  have e13 := h 13 (.inl rfl)
                  try dsimp only at hf ⊢
                  rw [e13] at hf
                  exact hf
                | 14 =>
                  have e14 := h 14 (.inl rfl)
                  try dsimp only at hf ⊢
                  rw [e14] at hf
                  exact hf
                | 15 =>
                  have e15 := h 15 (.inl rfl)
                  try dsimp only at hf ⊢
                  rw [e15] at hf
                  exact hf
                | 16 =>
                  have e15 := h 15 (.inr (by kernel_rfl))
                  try dsimp only at hf ⊢
                  rw [e15] at hf
                  exact hf
                | 17 =>
                  have e17 := h 17 (.inl rfl)
                  try dsimp only at hf ⊢
                  rw [e17] at hf
                  exact hf
                | n + 18 => trivial
              case hstA =>
                intro i j us W W' hne hw hi hj hE hf
                match i with
                | 0 => exact hf
                | 1 => exact hf
                | 2 => exact hf
                | 3 => exact hf
                | 4 => exact hf
                | 5 => exact hf
                | 6 => exact hf
                | 7 => exact hf
                | 8 => exact hf
                | 9 => exact hf
                | 10 => exact hf
                | 11 =>
                  exact Tp.ea (by decide) (by decide) hE hf
                | 12 =>
                  exact Tp.ea (by decide) (by decide) hE hf
                | 13 =>
                  exact Hp.ea (by decide) (by decide) hE hf
                | 14 => exact hf
                | 15 =>
                  exact Nw3.ea hE hf
                | 16 =>
                  exact Yb3.ea hE (Ne.symm hne) hf
                | 17 => exact hf
                | n + 18 => trivial
              case hG0A =>
                exact (Below.refl _ w4).drew
              case hGA =>
                intro j W W' hE hg
                exact Ea.below hE hg hg.size
              case hopA =>
                intro i hi us W hg hd hq
                match i, hi with
                | 0, _ =>
                  clear hd hq
                  have qa := (hg.cell (p := ⟨p, 0, none⟩) HLH.out).trans H0.out
                  have qb := (hg.cell (p := ⟨p, 1, none⟩) HLH.out).trans H1.out
                  have qc := (hg.cell (p := ⟨p, 2, none⟩) HLH.out).trans H2.out
                  refine all_value rfl rfl (.agg #[.int .i64 (k : Int), .int .i64 0, .slice Ah nL ch]) W (by go_simp) ?_ ?_
                  · exact .inl (Grows.refl _)
                  · rfl
                | 1, _ =>
                  clear hd hq
                  refine all_value rfl rfl (.slice (some ⟨bl, 0, none⟩) n c1) W (by go_simp) ?_ ?_
                  · exact .inl (Grows.refl _)
                  · rfl
                | 2, _ =>
                  clear hd hq
                  refine all_value rfl rfl (.int .i64 (m : Int)) W (by go_simp) ?_ ?_
                  · exact .inl (Grows.refl _)
                  · rfl
                | 3, _ =>
                  have h1 : us 1 = .slice (some ⟨bl, 0, none⟩) n c1 := hd 1 (by kernel_rfl)
                  have h2 : us 2 = .int .i64 (m : Int) := hd 2 (by kernel_rfl)
                  clear hd hq
                  refine all_value rfl rfl (.pointer (some ⟨bl, m * 2, none⟩)) W (by go_simp) ?_ ?_
                  · exact .inl (Grows.refl _)
                  · rfl
                | 4, _ =>
                  have h3 : us 3 = .pointer (some ⟨bl, m * 2, none⟩) := hd 3 (by kernel_rfl)
                  clear hd hq
                  refine all_value rfl rfl (.pointer (some ⟨bl, m * 2, none⟩)) W (by go_simp) ?_ ?_
                  · exact .inl (Grows.refl _)
                  · rfl
                | 5, _ =>
                  have h4 : us 4 = .pointer (some ⟨bl, m * 2, none⟩) := hd 4 (by kernel_rfl)
                  clear hd hq
                  have qa := (hg.cell (p := ⟨bl, m * 2, none⟩) HLD.out).trans HD0.out
                  refine all_value rfl rfl (.int .u64 (tk : Int)) W (by go_simp) ?_ ?_
                  · exact .inl (Grows.refl _)
                  · rfl
                | 6, _ =>
                  clear hd hq
                  refine all_value rfl rfl (.slice (some ⟨bl, 0, none⟩) n c1) W (by go_simp) ?_ ?_
                  · exact .inl (Grows.refl _)
                  · rfl
                | 7, _ =>
                  clear hd hq
                  refine all_value rfl rfl (.int .i64 (m : Int)) W (by go_simp) ?_ ?_
                  · exact .inl (Grows.refl _)
                  · rfl
                | 8, _ =>
                  have h6 : us 6 = .slice (some ⟨bl, 0, none⟩) n c1 := hd 6 (by kernel_rfl)
                  have h7 : us 7 = .int .i64 (m : Int) := hd 7 (by kernel_rfl)
                  clear hd hq
                  refine all_value rfl rfl (.pointer (some ⟨bl, m * 2, none⟩)) W (by go_simp) ?_ ?_
                  · exact .inl (Grows.refl _)
                  · rfl
                | 9, _ =>
                  have h8 : us 8 = .pointer (some ⟨bl, m * 2, none⟩) := hd 8 (by kernel_rfl)
                  clear hd hq
                  refine all_value rfl rfl (.pointer (some ⟨bl, m * 2 + 1, none⟩)) W (by go_simp) ?_ ?_
                  · exact .inl (Grows.refl _)
                  · rfl
                | 10, _ =>
                  have h9 : us 9 = .pointer (some ⟨bl, m * 2 + 1, none⟩) := hd 9 (by kernel_rfl)
                  clear hd hq
                  have qa := (hg.cell (p := ⟨bl, m * 2 + 1, none⟩) HLD.out).trans HD1.out
                  refine all_value rfl rfl (.int .u64 (wt : Int)) W (by go_simp) ?_ ?_
                  · exact .inl (Grows.refl _)
                  · rfl
                | 11, _ =>
                  have h0 : us 0 = .agg #[.int .i64 (k : Int), .int .i64 0, .slice Ah nL ch] := hd 0 (by kernel_rfl)
                  have h5 : us 5 = .int .u64 (tk : Int) := hd 5 (by kernel_rfl)
                  have h10 : us 10 = .int .u64 (wt : Int) := hd 10 (by kernel_rfl)
                  clear hd hq
                  refine all_call rfl rfl 46 #[.agg #[.int .i64 (k : Int), .int .i64 0, .slice Ah nL ch], .int .u64 (tk : Int), .int .u64 (wt : Int)] (by go_simp) ?_
                  exact (HADD.out W hg).mono fun _ W' ⟨A', c', he, hL, hb⟩ => ⟨_, he, .inl hb, ⟨A', c', rfl, hL⟩⟩
                | 12, _ =>
                  have h11 : Tp k 0 R (us 11) W := hd 11 (by kernel_rfl)
                  clear hd hq
                  refine all_value rfl rfl (us 11) W (by go_simp) ?_ ?_
                  · exact .inl (Grows.refl _)
                  · exact h11
                | 13, _ =>
                  have h12 : Tp k 0 R (us 12) W := hd 12 (by kernel_rfl)
                  clear hd hq
                  obtain ⟨A', c', e8, hL⟩ := h12
                  refine all_value rfl rfl (.agg #[.int .i64 (k : Int), .int .i64 0, .slice A' R.length c']) W (by go_simp) ?_ ?_
                  · exact .inl (Grows.refl _)
                  · exact ⟨A', c', rfl, hL⟩
                | 14, _ =>
                  have h12 : Tp k 0 R (us 12) W := hd 12 (by kernel_rfl)
                  clear hd hq
                  obtain ⟨A', c', e8, hL⟩ := h12
                  refine all_value rfl rfl (.int .i64 0) W (by go_simp) ?_ ?_
                  · exact .inl (Grows.refl _)
                  · rfl
                | 15, _ =>
                  clear hd hq
                  refine all_value rfl rfl (.pointer (some ⟨W.heap.size, 0, none⟩)) (W.alloc (.cells #[.int .i64 0, .int .i64 0, .slice none 0 0] 27)) (by go_simp) ?_ ?_
                  · exact .inl (Grows.alloc _ _)
                  · exact ⟨W.heap.size, _, _, _, rfl, hg.size, World.alloc_heap_new _ _⟩
                | 16, _ =>
                  have h15 : Nw3 27 w4.heap.size (us 15) W := hd 15 (by kernel_rfl)
                  have h13 : Hp k R (us 13) W := hd 13 (by kernel_rfl)
                  clear hd hq
                  obtain ⟨A', c', e9, hL⟩ := h13
                  obtain ⟨p', x0, x1, x2, e11, hp, hblk⟩ := h15
                  obtain ⟨q0, q1, q2⟩ := box3 hblk
                  have f0 : ∀ i, W.frozen? ⟨p', i, none⟩ = false := fun i => by simp [World.frozen?, hblk]
                  have HBK := Lib.hid hblk
                  have hlp := lt_of hblk
                  clear hblk
                  refine all_skip rfl rfl (((W.setCell ⟨p', 0, none⟩ (.int .i64 (k : Int))).setCell ⟨p', 1, none⟩ (.int .i64 0)).setCell ⟨p', 2, none⟩ (.slice A' R.length c')) (by go_simp) ?_ ?_
                  · exact .inr ⟨rfl, st3_set hp HBK.out _ _ _⟩
                  · exact ⟨p', A', c', e11, hp, set3 HBK.out _ _ _, levs_set3 (by decide) (by decide) HBK.out _ _ _ hL⟩
                | 17, _ =>
                  have h14 : us 14 = .int .i64 0 := hd 14 (by kernel_rfl)
                  clear hd hq
                  refine all_value rfl rfl (.int .i64 0) W (by go_simp) ?_ ?_
                  · exact .inl (Grows.refl _)
                  · rfl
                | n + 18, h => exact absurd h (by simp)
              case hendA =>
                intro us W hg hf
                have h16 : Yb3 27 w4.heap.size k R (us 15) W := hf 16 (by simp)
                have h17 : us 17 = .int .i64 0 := hf 17 (by simp)
                clear hf
                obtain ⟨p5, A5, c5, e15, hp5, hblk, hLp⟩ := h16
                rw [h17, e15]
                have hbA := (hg.block p HLH.out).trans HBX.out
                obtain ⟨y0, y1, y2⟩ := box3 hbA
                obtain ⟨z0, z1, z2⟩ := box3 hblk
                have fA : ∀ i, W.frozen? ⟨p, i, none⟩ = false := fun i => by simp [World.frozen?, hbA]
                have lA := lt_of hbA
                have lp := lt_of hblk
                have hpA : p5 ≠ p := by have := HLH.out; omega
                have HBA := Lib.hid hbA
                have HLP := Lib.hid hLp
                have HG := Lib.hid hg
                clear hbA hblk hLp hg e15 h17
                go_wp2
                have hgr : W.grownBy (((W.setCell ⟨p, 0, none⟩ (.int .i64 (k : Int))).setCell ⟨p, 1, none⟩ (.int .i64 0)).setCell ⟨p, 2, none⟩ (.slice A5 R.length c5)) (some p) := grown3 _ _ _
                refine ⟨⟨i + 1, seq ++ [x], D.set m true, by go_num, hlt, by simp [hsl], HN1, Lib.hid ⟨?_, HAP.out, ?_, ⟨A5, c5, ?_, ?_⟩, ?_, ?_⟩⟩, by simp [intOf]; omega⟩
                · exact World.ownsRow.kept (own_below HL4.out HG.out) hgr (.inr (by show some bl ≠ some p; simpa using Ne.symm hpbl))
                · exact World.ownsRow.kept (own_below HD4.out HG.out) hgr (.inr (by show some bd ≠ some p; simp; omega))
                · rw [HRR.out]
                  exact set3 HBA.out _ _ _
                · rw [HRR.out]
                  exact levs_set3 (by decide) (by decide) HBA.out _ _ _ HLP.out
                · rw [keep3 (by have := HPW.out; omega)]
                  exact (HG.out.block _ (lt_of HR4.out)).trans HR4.out
                · exact below3 (thn HB4.out HG.out) (by have := HPW.out; omega) _ _ _
            · have e : i = n := by omega
              have hpm : seq.Perm all := HPK.out.done (by rw [hsl, HLN.out]; exact e)
              have hfl : foldL k seq = mergeL k all := merge_fold k hpm HPK.out.turn
              subst e
              rw [hfl] at hh hL
              obtain ⟨L, hLe⟩ : ∃ L, mergeL k all = L := ⟨_, rfl⟩
              rw [hLe] at hh hL
              obtain ⟨m, hm⟩ : ∃ m, L.length = m := ⟨_, rfl⟩
              rw [hm] at hh hL
              have hr := HRI.out.res
              have f0 : ∀ i, wr.frozen? ⟨p, i, none⟩ = false := fun i => by simp [World.frozen?, hh]
              have f1 : ∀ i, wr.frozen? ⟨w.heap.size, i, none⟩ = false := fun i => by simp [World.frozen?, hr]
              have l6 := lt_of hh
              have l7 := lt_of hr
              obtain ⟨d0, d1, d2⟩ := box3 hh
              obtain ⟨r0, r1, r2⟩ := box3 hr
              have n1 : p ≠ w.heap.size := by have := HPW.out; omega
              have HHH := Lib.hid hh
              have HRR := Lib.hid hr
              have HL := Lib.hid hL
              have HBB := Lib.hid HRI.out.below
              have HLE := Lib.hid hLe
              have HM := Lib.hid hm
              clear hh hr hL hpm hfl hLe hm HPK HRI
              go_wp2
              have y1 : (wr.setCell ⟨p, 1, none⟩ (.int .i64 (G + 1))).heap[w.heap.size]? = some (.cells #[.int .i64 0, .int .i64 0, .slice none 0 0] 27) := (Below.heap_setCell _ _ _ _ (by simp; omega)).trans HRR.out
              have y2 := set3 y1 (.int .i64 (k : Int)) (.int .i64 (G + 1)) (.slice Ah m ch)
              have v1 : Levs (wr.setCell ⟨p, 1, none⟩ (.int .i64 (G + 1))) (wr.setCell ⟨p, 1, none⟩ (.int .i64 (G + 1))).heap.size (.slice Ah m ch) L :=
                HL.out.other (grown_set _ _ _ _) fun b' e => by
                  cases e
                  have ht : Ty wr 27 p := ⟨_, _, HHH.out⟩
                  exact ⟨fun h => Ty.ne ht h (by decide) rfl, fun h => Ty.ne ht h (by decide) rfl⟩
              have v2 := levs_set3 (T := 27) (by decide) (by decide) y1 (.int .i64 (k : Int)) (.int .i64 (G + 1)) (.slice Ah m ch) v1
              have b3 := below3 (HBB.out.setCell (p := ⟨p, 1, none⟩) (by simp; have := HPW.out; omega) (.int .i64 (G + 1))) (b := w.heap.size) (Nat.le_refl _) (.int .i64 (k : Int)) (.int .i64 (G + 1)) (.slice Ah m ch)
              obtain ⟨t0, t1, t2⟩ := box3 y2
              refine bodyPost_ret (v := .tuple #[hv k (G + 1) (.slice Ah m ch), .int .i64 0]) (by simp [results, Try.results60, go_sem, t0, t1, t2]) rfl ⟨Ah, ch, ?_, ?_, b3⟩
              · rw [Int.toNat_natCast, HLE.out, HM.out]
              · rw [Int.toNat_natCast, HLE.out, HM.out]
                exact v2

theorem r10with_any (xs : List Hx) (evs : List Ev) (ha : Asked xs evs) (w : World) (A A2 : Option Addr) (c c2 : Nat) (h : Hs w w.heap.size (.slice A xs.length c) xs) (h2 : Lies evL w w.heap.size (.slice A2 evs.length c2) evs) :
    Calls Try.prog 60 #[.slice A2 evs.length c2, .slice A xs.length c] w (WithP evs (xs.map Hx.m) w) := by
  by_cases hb : badN evs (xs.map Hx.m) = 0
  · refine (rwith_ok xs evs ha hb w A A2 c c2 h h2).mono ?_
    rintro e w' ⟨A', c', he, hL, hB⟩
    unfold WithP outM
    simp only [if_pos hb]
    exact ⟨A', c', by rw [he, hb]; rfl, hL, hB⟩
  · refine (rwith_bad xs evs ha hb w A A2 c c2 h h2).mono ?_
    rintro e w' ⟨he, hB⟩
    unfold WithP outM
    simp only [if_neg hb]
    exact ⟨none, 0, he, Levs.nil, hB⟩
theorem rmerge_any (xs : List Hx) (ha : Asked xs []) (w : World) (A : Option Addr) (c : Nat) (h : Hs w w.heap.size (.slice A xs.length c) xs) :
    Calls Try.prog 41 #[.slice A xs.length c] w (WithP [] (xs.map Hx.m) w) := by
  have hb0 : Below w.heap.size w (w.alloc (.cells #[.int .i64 0, .int .i64 0, .slice none 0 0] 27)) := (Below.refl _ w).alloc (Nat.le_refl _) _
  have p0 : (w.alloc (.cells #[.int .i64 0, .int .i64 0, .slice none 0 0] 27)).heap[w.heap.size]? = some (.cells #[.int .i64 0, .int .i64 0, .slice none 0 0] 27) := heap_alloc_new w _
  have hw := r10with_any xs [] ha _ A none c 0 (h.grow hb0) (Lies.nil none 0 (by unfold maxLen; omega))
  obtain ⟨N, hN⟩ : ∃ N, xs.length = N := ⟨_, rfl⟩
  rw [hN] at hw ⊢
  have HW := Lib.hid hw
  have HB0 := Lib.hid hb0
  have HP0 := Lib.hid p0
  clear hw h hN hb0 p0
  unfold WithP at HW ⊢
  generalize outM [] (xs.map Hx.m) = o at *
  obtain ⟨o1, o2, o3⟩ := o
  dsimp only at HW ⊢
  generalize badN [] (xs.map Hx.m) = C at *
  obtain ⟨M, hM⟩ : ∃ M, o3.length = M := ⟨_, rfl⟩
  rw [hM] at HW ⊢
  go_enter Try.func41, Try.ntmps41
  go_wp2_with (go_at_call 60; refine HW.out.mono ?_; rintro e w1 ⟨A', c', rfl, hL, hb1⟩; have hq := (hb1.block w.heap.size (by simp)).trans HP0.out; have f0 : ∀ i, w1.frozen? ⟨w.heap.size, i, none⟩ = false := (fun i => by simp [World.frozen?, hq]); have lq := lt_of hq; obtain ⟨q0, q1, q2⟩ := box3 hq; have HL := Lib.hid hL; have HB := Lib.hid hb1; have HQ := Lib.hid hq; clear hL hb1 hq)
  obtain ⟨r0, r1, r2⟩ := box3 (set3 HQ.out (.int .i64 o1) (.int .i64 o2) (.slice A' M c'))
  refine bodyPost_ret (v := .tuple #[hv o1 o2 (.slice A' M c'), .int .i64 (C : Int)]) (by simp [results, Try.results41, go_sem, r0, r1, r2]) rfl ⟨A', c', rfl, ?_, below3 (thn HB0.out HB.out) (Nat.le_refl _) _ _ _⟩
  exact levs_set3 (T := 27) (by decide) (by decide) HQ.out _ _ _ HL.out

end Go.Proofs.Ytmdknedngiggdaa
end
section
/- skylightlaw10.awake: two, of one unit each; and histograms in a literal. -/
namespace Go.Proofs.Rw
open Go Go.RowKit Go.Proofs.Lh
/-- Histograms in a literal. -/
theorem hs_block {W : World} {b : Nat} {T : TypeId} {fr : Nat × Nat} {cs : Array Value} (hb : W.heap[b]? = some (.cells cs T fr)) (xs : List Hx) (hcs : cs.toList = hxL.cells xs) (n : Nat) (hn : xs.length = n) (hm : n ≤ 1000) (hl : ∀ x ∈ xs, Levs W W.heap.size (.slice x.A x.ls.length x.c) x.ls) :
    Hs W W.heap.size (.slice (some ⟨b, 0, none⟩) n n) xs := by
  subst hn
  refine ⟨⟨_, xs.length, rfl, Nat.le_refl _, by unfold maxLen; omega, .inr ⟨b, 0, (Array.getElem?_eq_some_iff.1 hb).1, rfl, fun j u hu => ?_⟩⟩, hl⟩
  rw [Nat.zero_add, cell_of_row _ _ _ cs T fr hb, ← Array.getElem?_toList, hcs]
  exact hu
end Go.Proofs.Rw
namespace Go.Proofs.Lh
open Go.Proofs.Lm (Sp)
theorem one1 : addW 2 [] 1 1 = [[(1, 1)]] := by
  unfold addW addL
  rw [newL_ne _ _ (by simp), show wentL (List.replicate 1 (1, 1)) (rm 2 0) = [] by decide, newL_nil]
  decide
theorem one2 : addW 2 [] 2 1 = [[(2, 2)]] := by
  unfold addW addL
  rw [newL_ne _ _ (by simp), show wentL (List.replicate 1 (2, 2)) (rm 2 0) = [] by decide, newL_nil]
  decide
theorem two_a : addW 2 [[(1, 1)]] 2 1 = [[(1, 1), (2, 2)]] := by
  unfold addW
  rw [show ([[(1, 1)]] : Lv) = [(1, 1)] :: [] from rfl, addL, show wentL ([(1, 1)] ++ List.replicate 1 (2, 2)) (rm 2 0) = [] by decide, addL, newL_nil]
  decide
theorem play1 : play 2 [(1, 1)] 1 = (1, [[(1, 1)]]) := by
  unfold play
  simp only [List.take_succ_cons, List.take_zero, List.foldl_cons, List.foldl_nil]
  unfold stepP
  rw [if_pos (by decide), show (0 : Nat) + (1, 1).1 % 1000 = 1 from rfl, one1]
theorem play2 : play 2 [(2, 1)] 1 = (2, [[(2, 2)]]) := by
  unfold play
  simp only [List.take_succ_cons, List.take_zero, List.foldl_cons, List.foldl_nil]
  unfold stepP
  rw [if_pos (by decide), show (0 : Nat) + (2, 1).1 % 1000 = 2 from rfl, one2]
def Ha : Hm := (2, 0, [[(1, 1)]])
def Hb : Hm := (2, 0, [[(2, 2)]])
theorem out_two : outM [] [Hb, Ha] = (2, 1, [[(1, 1), (2, 2)]]) := by
  have hb : badN [] [Hb, Ha] = 0 := by decide
  have hm : mergeL 2 (lumpAll [] [Hb, Ha]) = [[(1, 1), (2, 2)]] := by
    have e : lumpAll [] [Hb, Ha] = [(2, 1), (1, 1)] := by decide
    rw [e, ← merge_fold 2 (all := [(1, 1), (2, 1)]) (List.Perm.swap _ _ _) (by decide)]
    show addW 2 (addW 2 [] 1 1) 2 1 = _
    rw [one1, two_a]
  unfold outM
  rw [if_pos hb, show kOne [Hb, Ha] = 2 from rfl, show (2 : Int).toNat = 2 from rfl, hm]
  rfl
theorem good1 : Good Ha := by
  have h := (Made.nil (k := 2) (by omega) (by omega)).add (t := 1) (n := 1) (by decide)
  rw [one1] at h
  exact ⟨by decide, h, by decide, by decide, by decide⟩
theorem good2 : Good Hb := by
  have h := (Made.nil (k := 2) (by omega) (by omega)).add (t := 2) (n := 1) (by decide)
  rw [one2] at h
  exact ⟨by decide, h, by decide, by decide, by decide⟩
end Go.Proofs.Lh
namespace Go.Proofs.Ytmdknedngiggdaa
open Go.RowKit Go.Shelf Go.Proofs.Rw Go.Proofs.Lh

theorem lit_deed1 (W : World) (T : TypeId) (a b : Nat) : Lies spL (W.alloc (.cells #[.int .u64 a, .int .u64 b] T)) (W.alloc (.cells #[.int .u64 a, .int .u64 b] T)).heap.size (.slice (some ⟨W.heap.size, 0, none⟩) 1 1) [(a, b)] := by
  have := lit_lump T W W.heap.size rfl a b
  rw [World.size_alloc]
  exact this

end Go.Proofs.Ytmdknedngiggdaa
end
section
/- For regions that load two histograms, ask whether they are the same, and lay both into results: facts that last. -/
namespace Go.Proofs.Ytmdknedngiggdaa
open Go.RowKit Go.Shelf Go.Proofs.Rw Go.Proofs.Lh Go.Proofs.Rf

abbrev hs3 (W : World) (p : Nat) (x y z : Value) : World := ((W.setCell ⟨p, 0, none⟩ x).setCell ⟨p, 1, none⟩ y).setCell ⟨p, 2, none⟩ z
/-- What operation j does: memory grows; or p is written, or q. -/
def E2 (s1 p : Nat) (x y z : Value) (s2 q : Nat) (x' y' z' : Value) (j : Nat) (W W' : World) : Prop := Grows W W' ∨ (j = s1 ∧ W' = hs3 W p x y z) ∨ (j = s2 ∧ W' = hs3 W q x' y' z')
/-- What stands in memory on the way: the two variables a, b, and what they hold; the results p, q. -/
structure G2 (T1 T2 : TypeId) (w : World) (pa pb p q : Nat) (k g k' g' : Int) (la lb : Lv) (A A2 : Option Addr) (c c2 : Nat) (W : World) : Prop where
  below : Below w.heap.size w W
  a : W.heap[pa]? = some (.cells #[.int .i64 k, .int .i64 g, .slice A la.length c] T1)
  b : W.heap[pb]? = some (.cells #[.int .i64 k', .int .i64 g', .slice A2 lb.length c2] T2)
  la : Levs W W.heap.size (.slice A la.length c) la
  lb : Levs W W.heap.size (.slice A2 lb.length c2) lb
  p : ∃ x y z, W.heap[p]? = some (.cells #[x, y, z] T1)
  q : ∃ x y z, W.heap[q]? = some (.cells #[x, y, z] T2)
theorem G2.grow {T1 T2 : TypeId} {w W W' : World} {pa pb p q : Nat} {k g k' g' : Int} {la lb : Lv} {A A2 : Option Addr} {c c2 : Nat} (h : G2 T1 T2 w pa pb p q k g k' g' la lb A A2 c c2 W) (hb : Below W.heap.size W W') : G2 T1 T2 w pa pb p q k g k' g' la lb A A2 c c2 W' := by
  obtain ⟨x, y, z, h1⟩ := h.p
  obtain ⟨x', y', z', h2⟩ := h.q
  exact ⟨thn h.below hb, (hb.block _ (lt_of h.a)).trans h.a, (hb.block _ (lt_of h.b)).trans h.b, h.la.grow hb, h.lb.grow hb, ⟨x, y, z, (hb.block _ (lt_of h1)).trans h1⟩, ⟨x', y', z', (hb.block _ (lt_of h2)).trans h2⟩⟩
theorem G2.drew' {T1 T2 : TypeId} {w W : World} {pa pb p q : Nat} {k g k' g' : Int} {la lb : Lv} {A A2 : Option Addr} {c c2 : Nat} (h : G2 T1 T2 w pa pb p q k g k' g' la lb A A2 c c2 W) : G2 T1 T2 w pa pb p q k g k' g' la lb A A2 c c2 W.drew := h.grow (Below.refl _ W).drew
theorem G2.set {T1 T2 T : TypeId} (n1 : T ≠ 65) (n2 : T ≠ 73) {w W : World} {pa pb p q r : Nat} {k g k' g' : Int} {la lb : Lv} {A A2 : Option Addr} {c c2 : Nat} (h : G2 T1 T2 w pa pb p q k g k' g' la lb A A2 c c2 W) {x y z : Value} (hr : W.heap[r]? = some (.cells #[x, y, z] T)) (x' y' z' : Value) (ha : pa ≠ r) (hb : pb ≠ r) (hw : w.heap.size ≤ r) :
    G2 T1 T2 w pa pb p q k g k' g' la lb A A2 c c2 (hs3 W r x' y' z') := by
  obtain ⟨u, v, t, h1⟩ := h.p
  obtain ⟨u', v', t', h2⟩ := h.q
  refine ⟨below3 h.below hw _ _ _, (keep3 ha _ _ _).trans h.a, (keep3 hb _ _ _).trans h.b, levs_set3 n1 n2 hr _ _ _ h.la, levs_set3 n1 n2 hr _ _ _ h.lb, ?_, ?_⟩
  · by_cases e : p = r
    · subst e
      rw [h1] at hr
      injection hr with hr
      injection hr with _ hT _
      subst hT
      exact ⟨_, _, _, set3 h1 _ _ _⟩
    · exact ⟨_, _, _, (keep3 e _ _ _).trans h1⟩
  · by_cases e : q = r
    · subst e
      rw [h2] at hr
      injection hr with hr
      injection hr with _ hT _
      subst hT
      exact ⟨_, _, _, set3 h2 _ _ _⟩
    · exact ⟨_, _, _, (keep3 e _ _ _).trans h2⟩

end Go.Proofs.Ytmdknedngiggdaa
end
