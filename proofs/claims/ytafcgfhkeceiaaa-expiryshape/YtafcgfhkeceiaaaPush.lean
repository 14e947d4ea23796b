/- The contract of level.Push. -/
import Derived.Test.YtafcgfhkeceiaaaConcat
namespace Go.Proofs.Ytafcgfhkeceiaaa
open Go.RowKit Go.Proofs.Rw
open Go.Proofs.Lm (el two pairs wentN stayN leftN went stay)

/-- A line as the teller keeps it: where it is, and what is listed. -/
def St (w wr : World) (at_ box B : Nat) (A : Option Addr) (cap : Nat) (xs : List Sp) (t p : Nat) : Prop :=
  wr.heap[at_]? = some (.cells #[.int .i64 (p : Int)] 3) ∧ wr.heap[box]? = some (.cells #[.slice A xs.length cap, .int .u64 (t : Int)] 77) ∧ Lies spL wr B (.slice A xs.length cap) xs ∧ Below w.heap.size w wr

theorem St.grown {w wr wr' : World} {at_ box B : Nat} {A : Option Addr} {cap : Nat} {xs : List Sp} {t p g : Nat} (h : St w wr at_ box B A cap xs t p) (hg : wr.grownBy wr' (some g)) (hB : B ≤ wr.heap.size) (h1 : B ≤ g) (h2 : g ≠ at_) (h3 : g ≠ box) (h4 : w.heap.size ≤ g) : St w wr' at_ box B A cap xs t p := by
  obtain ⟨ha, hb, hL, hbel⟩ := h
  refine ⟨(hg.block _ (lt_of ha) (by simp; omega)).trans ha, (hg.block _ (lt_of hb) (by simp; omega)).trans hb, hL.keep fun b hbB => hg.block b (by omega) (by simp; omega), hbel.grown hg hbel.size (fun k e => by cases e; exact h4)⟩
theorem St.next {w wr wr' : World} {at_ box B : Nat} {A : Option Addr} {cap : Nat} {xs : List Sp} {t p q : Nat} (h : St w wr at_ box B A cap xs t p) (hg : wr.grownBy wr' (some at_)) (ha' : wr'.heap[at_]? = some (.cells #[.int .i64 (q : Int)] 3)) (hB : B ≤ wr.heap.size) (h1 : B ≤ at_) (h3 : at_ ≠ box) (h4 : w.heap.size ≤ at_) : St w wr' at_ box B A cap xs t q := by
  obtain ⟨ha, hb, hL, hbel⟩ := h
  refine ⟨ha', (hg.block _ (lt_of hb) (by simp; omega)).trans hb, hL.keep fun b hbB => hg.block b (by omega) (by simp; omega), hbel.grown hg hbel.size (fun k e => by cases e; exact h4)⟩

/-- A row of n, of which k are there. -/
def rowTo (f : Nat → Sp) (n k : Nat) : List Sp := (List.range n).map fun j => if j < k then f j else (0, 0)
theorem rowTo_len (f : Nat → Sp) (n k : Nat) : (rowTo f n k).length = n := by simp [rowTo]
theorem rowTo_all (f : Nat → Sp) (n : Nat) : rowTo f n n = (List.range n).map f := by
  unfold rowTo
  refine List.map_congr_left fun j hj => ?_
  rw [if_pos (List.mem_range.1 hj)]
theorem rowTo_set (f : Nat → Sp) (n k : Nat) : rowTo f n (k + 1) = (rowTo f n k).set k (f k) := by
  apply List.ext_getElem
  · simp [rowTo]
  · intro i h1 h2
    simp only [rowTo, List.getElem_map, List.getElem_range, List.getElem_set]
    by_cases h : k = i
    · subst h; simp
    · rw [if_neg h]
      by_cases h' : i < k
      · rw [if_pos (by omega), if_pos h']
      · rw [if_neg (by omega), if_neg h']
theorem cells_set (xs : List Sp) (k : Nat) (a b : Nat) : spL.cells (xs.set k (a, b)) = ((spL.cells xs).set (k * 2) (.int .u64 a)).set (k * 2 + 1) (.int .u64 b) := by
  induction xs generalizing k with
  | nil => simp [Lay.cells]
  | cons x xs ih =>
    cases k with
    | zero => simp [Lay.cells, spL]
    | succ k =>
      rw [List.set_cons_succ, cells_cons, cells_cons, ih]
      show spL.enc x ++ _ = _
      rw [show spL.enc x = [.int .u64 x.1, .int .u64 x.2] from rfl, show (k + 1) * 2 = k * 2 + 1 + 1 by omega, show k * 2 + 1 + 1 + 1 = (k * 2 + 1) + 1 + 1 by omega]
      rfl
theorem made_zero (n : Nat) (f : Nat → Sp) : (madeCells (Value.agg #[.int .u64 0, .int .u64 0]).cells (n * 2)).toList = spL.cells (rowTo f n 0) := by
  apply List.ext_getElem?
  intro j
  by_cases hj : j < n * 2
  · obtain ⟨i, k, hk, rfl⟩ : ∃ i k, k < 2 ∧ j = i * 2 + k := ⟨j / 2, j % 2, by omega, by omega⟩
    have e := cells_at spL (rowTo f n 0) i k (by rw [rowTo_len]; omega) hk
    rw [show spL.size = 2 from rfl] at e
    rw [e]
    have : (rowTo f n 0)[i]'(by rw [rowTo_len]; omega) = (0, 0) := by simp [rowTo]
    rw [this]
    rcases k with _ | _ | k
    · simp [madeCells, Value.cells, spL, show i * 2 < n * 2 by omega]
    · simp [madeCells, Value.cells, spL, hj, show (i * 2 + 1) % 2 = 1 by omega]
    · omega
  · rw [List.getElem?_eq_none (by simp [madeCells]; omega), List.getElem?_eq_none (by rw [cells_len, rowTo_len]; show n * 2 ≤ j; omega)]

/-- Two stores into a row of the call's own. -/
theorem own_set {w : World} {base g n : Nat} {xs : List Sp} (h : Own w base (.slice (some ⟨g, 0, none⟩) n n) xs) (hn : xs.length = n) (k a b : Nat) :
    Own ((w.setCell ⟨g, k * 2, none⟩ (.int .u64 a)).setCell ⟨g, k * 2 + 1, none⟩ (.int .u64 b)) base (.slice (some ⟨g, 0, none⟩) n n) (xs.set k (a, b)) ∧
      w.grownBy ((w.setCell ⟨g, k * 2, none⟩ (.int .u64 a)).setCell ⟨g, k * 2 + 1, none⟩ (.int .u64 b)) (some g) := by
  unfold Own at *
  rw [hn] at h
  obtain ⟨h1, h2⟩ := h.stored (k * 2) (.int .u64 a)
  obtain ⟨h3, h4⟩ := h1.stored (k * 2 + 1) (.int .u64 b)
  rw [List.length_set, cells_set, hn]
  exact ⟨h3, grown_trans h2 h4⟩

theorem el_min (xs : List Sp) (t j : Nat) : el xs t (min j xs.length) = el xs t j := by
  rcases Nat.lt_or_ge j xs.length with h | h
  · rw [Nat.min_eq_left (by omega)]
  · rw [Nat.min_eq_right h, Lm.el_ge (Nat.le_refl _), Lm.el_ge h]
theorem St.call {w wr : World} {at_ box B : Nat} {A : Option Addr} {cap : Nat} {xs : List Sp} {t j : Nat} (h : St w wr at_ box B A cap xs t (min j xs.length)) (hl : xs.length ≤ 10000000) (hB : B ≤ box) (hab : box < at_) (hw : w.heap.size ≤ at_) :
    Calls Try.prog 51 #[.pointer (some ⟨at_, 0, none⟩), .pointer (some ⟨box, 0, none⟩)] wr fun e w' => e = .returned (.agg #[.int .u64 ((el xs t j).1 : Int), .int .u64 ((el xs t j).2 : Int)]) ∧ St w w' at_ box B A cap xs t (min (j + 1) xs.length) ∧ wr.grownBy w' (some at_) := by
  have h' := h
  obtain ⟨ha, hb, hL, hbel⟩ := h
  refine (next_any wr at_ box B A cap xs t (min j xs.length) (Nat.min_le_right _ _) hl (by omega) ha hb hL (by omega)).mono ?_
  rintro e w' ⟨he, ha', hg⟩
  rw [el_min] at he
  refine ⟨he, St.next h' hg ?_ (by have := lt_of hb; omega) (by omega) (by omega) hw, hg⟩
  rw [show min (j + 1) xs.length = min (min j xs.length + 1) xs.length by omega]
  exact ha'
/-- The two cells of an element of an own row. -/
theorem own_cells {w : World} {base g n : Nat} {xs : List Sp} (h : Own w base (.slice (some ⟨g, 0, none⟩) n n) xs) (hn : xs.length = n) (k : Nat) (hk : k < n) :
    (∃ u, w.cell? ⟨g, k * 2, none⟩ = some u) ∧ (∃ u, w.cell? ⟨g, k * 2 + 1, none⟩ = some u) ∧ w.frozen? ⟨g, k * 2, none⟩ = false ∧ w.frozen? ⟨g, k * 2 + 1, none⟩ = false := by
  unfold Own at h
  rw [hn] at h
  have e0 := h.cellAt (k * 2) (by omega)
  have e1 := h.cellAt (k * 2 + 1) (by omega)
  have hcl : (spL.cells xs).length = n * 2 := by rw [cells_len, hn]; rfl
  rw [List.getElem?_eq_getElem (by omega)] at e0 e1
  exact ⟨⟨_, e0⟩, ⟨_, e1⟩, h.frozenAt _, h.frozenAt _⟩
theorem own_other {w w' : World} {base g n k : Nat} {xs : List Sp} (h : Own w base (.slice (some ⟨g, 0, none⟩) n n) xs) (hg : w.grownBy w' (some k)) (hk : k ≠ g) : Own w' base (.slice (some ⟨g, 0, none⟩) n n) xs :=
  h.kept hg (.inr (by simp [Value.ownBlock]; omega))

/-- For how many there is room. -/
def roomOf (most : Int) : Nat := (max most 1).toNat

/-- The three results of 'Push'. -/
def Pushed (w w' : World) (e : Ending) (stays wents : List Sp) (k : Nat) : Prop :=
  ∃ b1 b2 : Nat, e = .returned (.tuple #[.slice (some ⟨b1, 0, none⟩) stays.length stays.length, .slice (some ⟨b2, 0, none⟩) wents.length wents.length, .int .u64 (k : Int)]) ∧ w.heap.size ≤ b1 ∧ w.heap.size ≤ b2 ∧ b1 ≠ b2 ∧
    Own w' w.heap.size (.slice (some ⟨b1, 0, none⟩) stays.length stays.length) stays ∧ Own w' w.heap.size (.slice (some ⟨b2, 0, none⟩) wents.length wents.length) wents ∧ Below w.heap.size w w'

set_option maxRecDepth 100000 in
set_option maxHeartbeats 4000000 in
theorem push_any (l add : List Sp) (most : Int) (many t : Nat) (hl : l.length + add.length ≤ 1000000) (hm : most ≤ 1000000) (hmany : many ≤ 4611686018427387904) (w : World) (B : Nat) (A1 A2 : Option Addr) (c1 c2 : Nat)
    (h1 : Lies spL w B (.slice A1 l.length c1) l) (h2 : Lies spL w B (.slice A2 add.length c2) add) (hB : B ≤ w.heap.size) :
    Calls Try.prog 40 #[.slice A1 l.length c1, .int .i64 most, .slice A2 add.length c2, .int .u64 many, .int .u64 t] w fun e w' => Pushed w w' e (stay (l ++ add) t many (roomOf most)) (went (l ++ add) t many (roomOf most)) (leftN (l ++ add).length many (roomOf most)) := by
  obtain ⟨i0, hi, hz0, hz1, hz2⟩ := info_parts info_sp
  have hcat := concat_any l add (by omega) (w.alloc (.cells #[.slice A1 l.length c1, .slice A2 add.length c2] 38)) w.heap.size B A1 A2 c1 c2 (heap_alloc_new w _) (h1.alloc hB _) (h2.alloc hB _) (by simp; omega)
  obtain ⟨room, hroom⟩ : ∃ r, roomOf most = r := ⟨_, rfl⟩
  have hr1 : min (max most 1) 9223372036854775807 = (room : Int) := by unfold roomOf at hroom; omega
  have hr2 : 1 ≤ room := by unfold roomOf at hroom; omega
  have hr3 : room ≤ 1000000 := by unfold roomOf at hroom; omega
  obtain ⟨xs, hxs⟩ : ∃ xs, l ++ add = xs := ⟨_, rfl⟩
  have hxl : xs.length ≤ 1000000 := by rw [← hxs, List.length_append]; exact hl
  rw [hxs] at hcat
  rw [hroom, hxs]
  have k1 := fun W => boundedI_any most 1 9223372036854775807 W
  rw [hr1] at k1
  have k2 : ∀ W, Calls Try.prog 45 #[.int .u64 0, .int .u64 xs.length, .int .u64 room] W fun e w' => e = tw (0 + min xs.length (room - 0) - (xs.length - min xs.length (room - 0)) % 2) ((xs.length - min xs.length (room - 0) + 1) / 2) ∧ W = w' := fun W => settle_any 0 xs.length room (by omega) (by omega) (by omega) hr2 W
  obtain ⟨s1, hs1⟩ : ∃ s, 0 + min xs.length (room - 0) - (xs.length - min xs.length (room - 0)) % 2 = s := ⟨_, rfl⟩
  obtain ⟨p1, hp1⟩ : ∃ p, (xs.length - min xs.length (room - 0) + 1) / 2 = p := ⟨_, rfl⟩
  rw [hs1, hp1] at k2
  have k3 := fun W => settle_any s1 many room (by omega) (by omega) (by omega) hr2 W
  obtain ⟨s2, hs2⟩ : ∃ s, s1 + min many (room - s1) - (many - min many (room - s1)) % 2 = s := ⟨_, rfl⟩
  obtain ⟨p2, hp2⟩ : ∃ p, (many - min many (room - s1) + 1) / 2 = p := ⟨_, rfl⟩
  rw [hs2, hp2] at k3
  have hsum : p1 + p2 = pairs xs.length many room ∧ s2 = stayN xs.length many room := by
    unfold stayN pairs
    omega
  obtain ⟨hP, hS⟩ := hsum
  have k4 := fun W => halfU_any xs.length (by omega) W
  obtain ⟨hf, hhf⟩ : ∃ h, (xs.length + 1) / 2 = h := ⟨_, rfl⟩
  rw [hhf] at k4
  have k5 := fun W => boundedU_any ((p1 : Int) + p2) 0 (hf : Int) W
  obtain ⟨g, hgg⟩ : ∃ g, wentN xs.length many room = g := ⟨_, rfl⟩
  have hg1 : min (max ((p1 : Int) + p2) 0) (hf : Int) = g := by unfold wentN at hgg; omega
  rw [hg1] at k5
  have hgl : g ≤ 1000000 := by have := Lm.wentN_half xs.length many room; omega
  have hsl : s2 ≤ 1000000 := by have := Lm.stayN_le (n := xs.length) (many := many) (room := room); omega
  have hgp : g ≤ p1 + p2 := by have := Lm.wentN_le xs.length many room; omega
  have hpl : p1 + p2 ≤ 4611686018427387904 := by omega
  have HCAT := Lib.hid hcat
  have K1 := Lib.hid k1
  have K2 := Lib.hid k2
  have K3 := Lib.hid k3
  have K4 := Lib.hid k4
  have K5 := Lib.hid k5
  have HP := Lib.hid hP
  have HS := Lib.hid hS
  have HG := Lib.hid hgg
  clear hcat k1 k2 k3 k4 k5 hP hS hgg hs1 hp1 hs2 hp2 hg1 hhf hr1 hroom hxs h1 h2 hm
  have hB0 := (Below.refl w.heap.size w).alloc (Nat.le_refl _) (.cells #[.slice A1 l.length c1, .slice A2 add.length c2] 38)
  go_enter Try.func40, Try.ntmps40
  go_upto_region 8 with (first
    | (go_at_call 43; (with_reducible refine HCAT.out.mono ?_); rintro e wc ⟨vc, rfl, hown, hbc⟩; obtain ⟨Ac, cc, rfl, hcc, hcm⟩ := own_form hown; have HOWN := Lib.hid hown; have HBC := Lib.hid hbc; have HCM := Lib.hid hcm; clear hown hbc hcm)
    | (go_at_call 44; (with_reducible refine (K1.out _).mono ?_); rintro e wn ⟨rfl, rfl⟩)
    | (go_at_call 45; (with_reducible refine (K2.out _).mono ?_); rintro e wn ⟨rfl, rfl⟩; dsimp only [tw])
    | (go_at_call 45; (with_reducible refine (K3.out _).mono ?_); rintro e wn ⟨rfl, rfl⟩; dsimp only [tw])
    | (go_at_call 46; refine (teller_any _ _ _).mono ?_; rintro e wt ⟨rfl, t1, t2, t3, t4⟩; have T1 := Lib.hid t1; have T2 := Lib.hid t2; have T3 := Lib.hid t3; have T4 := Lib.hid t4; clear t1 t2 t3 t4))
  have hst : St w wt (wc.heap.size + 1 + 1) (wc.heap.size + 1) wc.heap.size Ac cc xs t (min (2 * 0) xs.length) := by
    have t1 := T1.out
    have t2 := T2.out
    have t3 := T3.out
    have t4 := T4.out
    rw [World.size_alloc] at t1 t2 t3 t4
    have hL : Lies spL wc wc.heap.size (.slice Ac xs.length cc) xs := Lies.of_own (L := spL) HOWN.out
    refine ⟨by simpa using t3, t2, ((hL.alloc (Nat.le_refl _) _).below (t4.mono (by omega))), ((thn hB0 HBC.out).alloc ?_ _).trans (t4.mono ?_)⟩
    · have := HBC.out.size; simp at this; omega
    · have := HBC.out.size; simp at this; omega
  have hwc : w.heap.size + 1 ≤ wc.heap.size := by have := HBC.out.size; simpa using this
  have hwt : wt.heap.size = wc.heap.size + 3 := by have := T1.out; simp at this; omega
  have HWT := Lib.hid hwt
  have hwt1 : w.heap.size ≤ wt.heap.size := by omega
  have HST := Lib.hid hst
  clear hst hwt hB0 T1 T2 T3 T4 HOWN HBC HCAT K1 K2 K3
  go_wp2_with (first
    | (go_at_call 48; (with_reducible refine (K4.out _).mono ?_); rintro e wn ⟨rfl, rfl⟩)
    | (go_at_call 47; (with_reducible refine (K5.out _).mono ?_); rintro e wn ⟨rfl, rfl⟩)
    | (at_make; refine wpList_make_full _ rfl _ _ 38 rfl w.heap.size 41 i0 _ 2 Try.underlying38 hi hz0 hz1 .u64 .u64 _ _ g rfl rfl rfl rfl (by rw [hz2]; omega) (by unfold maxLen; omega) hwt1 ?_; intro wm hownm hgm))
  rw [made_zero g (two xs t)] at hownm
  have hown0 : Own wm w.heap.size (.slice (some ⟨wt.heap.size, 0, none⟩) g g) (rowTo (two xs t) g 0) := by unfold Own; rw [rowTo_len]; exact hownm
  have HO0 := Lib.hid hown0
  have HST2 := Lib.hid (HST.out.grown (g := wt.heap.size) ⟨hgm.os, hgm.tape, hgm.output, hgm.size, fun k hk _ => hgm.block k hk (by simp)⟩ (by have := HWT.out; omega) (by have := HWT.out; omega) (by have := HWT.out; omega) (by have := HWT.out; omega) hwt1)
  have HWM := Lib.hid (hown0.lt _ rfl).2
  clear hownm hown0 hgm HST K4 K5
  go_loopw [65] (fun j wr => ∃ k : Nat, j = .int .i64 k ∧ k ≤ g ∧ St w wr (wc.heap.size + 1 + 1) (wc.heap.size + 1) wc.heap.size Ac cc xs t (min (2 * k) xs.length) ∧ Own wr w.heap.size (.slice (some ⟨wt.heap.size, 0, none⟩) g g) (rowTo (two xs t) g k)) (fun j _ => g - (intOf j).toNat)
  case atStart => exact ⟨0, rfl, Nat.zero_le _, HST2.out, HO0.out⟩
  case round =>
    obtain ⟨k, rfl, hk, hst, hown⟩ := hrel
    have hwr : wt.heap.size < wr.heap.size := (hown.lt _ rfl).2
    have HST := Lib.hid hst
    have HOWN := Lib.hid hown
    clear hst hown HST2 HO0
    have hwt' := HWT.out
    by_cases hlt : k < g
    · have hne : wt.heap.size ≠ wc.heap.size + 1 + 1 := by omega
      have hne2 : wt.heap.size ≠ wc.heap.size + 1 := by omega
      have c1 := HST.out.call (by omega) (by omega) (by omega) (by omega)
      have c2 := fun (W : World) (h : St w W (wc.heap.size + 1 + 1) (wc.heap.size + 1) wc.heap.size Ac cc xs t (min (2 * k + 1) xs.length)) => h.call (by omega) (by omega) (by omega) (by omega)
      obtain ⟨x, hx⟩ : ∃ x, el xs t (2 * k) = x := ⟨_, rfl⟩
      obtain ⟨y, hy⟩ : ∃ y, el xs t (2 * k + 1) = y := ⟨_, rfl⟩
      have htwo : two xs t k = (x.1, y.2) := by unfold two; rw [hx, hy]
      rw [hx] at c1
      simp only [hy] at c2
      have C1 := Lib.hid c1
      have C2 := Lib.hid c2
      have HT := Lib.hid htwo
      clear c1 c2 hx hy htwo hwt'
      go_wp2_with (first
        | (go_at_call 51; (with_reducible refine C1.out.mono ?_); rintro e w1 ⟨rfl, hs1, hg1⟩; have HS1 := Lib.hid hs1; have HG1 := Lib.hid hg1; clear hs1 hg1)
        | (go_at_call 51; (with_reducible refine (C2.out _ HS1.out).mono ?_); rintro e w2 ⟨rfl, hs2, hg2⟩; have ho2 := own_other (own_other HOWN.out HG1.out (Ne.symm hne)) hg2 (Ne.symm hne); have hw2 : wt.heap.size < w2.heap.size := (ho2.lt _ rfl).2; obtain ⟨⟨u0, q0⟩, ⟨u1, q1⟩, f0, f1⟩ := own_cells ho2 (rowTo_len _ _ _) k hlt; have HS2 := Lib.hid hs2; have HO2 := Lib.hid ho2; clear hs2 hg2 ho2))
      obtain ⟨ho3, hg3⟩ := own_set HO2.out (rowTo_len _ _ _) k x.1 y.2
      rw [← HT.out, ← rowTo_set] at ho3
      have hz := HWT.out
      refine ⟨⟨k + 1, by go_num, hlt, ?_, ?_⟩, by simp [intOf]; omega⟩
      · rw [show 2 * (k + 1) = 2 * k + 1 + 1 by omega]
        exact HS2.out.grown (grown_trans hg3 (grown_trans (World.grownBy_alloc _ _ _) (World.grownBy_alloc _ _ _))) (by omega) (by omega) hne hne2 hwt1
      · exact (World.ownsRow.alloc (World.ownsRow.alloc ho3 _) _)
    · have e : k = g := by omega
      subst e
      rename World => wo
      clear hwt'
      go_wp2_with (at_make; refine wpList_make_full _ rfl _ _ 38 rfl w.heap.size 41 i0 _ 2 Try.underlying38 hi hz0 hz1 .u64 .u64 _ _ s2 rfl rfl rfl rfl (by rw [hz2]; omega) (by unfold maxLen; omega) (by omega) ?_; intro wn hownm hgm)
      rw [made_zero s2 (fun i => el xs t (2 * k + i))] at hownm
      have hgm' : wo.grownBy wn (some wo.heap.size) := ⟨hgm.os, hgm.tape, hgm.output, hgm.size, fun k hk _ => hgm.block k hk (by simp)⟩
      have hown0 : Own wn w.heap.size (.slice (some ⟨wo.heap.size, 0, none⟩) s2 s2) (rowTo (fun i => el xs t (2 * k + i)) s2 0) := by unfold Own; rw [rowTo_len]; exact hownm
      have HO0 := Lib.hid hown0
      have HWW := Lib.hid (own_other HOWN.out hgm' (by omega))
      have HST2 := Lib.hid (HST.out.grown hgm' (by have := HWT.out; omega) (by have := HWT.out; omega) (by have := HWT.out; omega) (by have := HWT.out; omega) (by omega))
      clear hownm hown0 hgm hgm' HST HOWN
      go_loopw [85] (fun j wq => ∃ i : Nat, j = .int .i64 i ∧ i ≤ s2 ∧ St w wq (wc.heap.size + 1 + 1) (wc.heap.size + 1) wc.heap.size Ac cc xs t (min (2 * k + i) xs.length) ∧ Own wq w.heap.size (.slice (some ⟨wt.heap.size, 0, none⟩) k k) (rowTo (two xs t) k k) ∧ Own wq w.heap.size (.slice (some ⟨wo.heap.size, 0, none⟩) s2 s2) (rowTo (fun i => el xs t (2 * k + i)) s2 i)) (fun j _ => s2 - (intOf j).toNat)
      case atStart => exact ⟨0, rfl, Nat.zero_le _, HST2.out, HWW.out, HO0.out⟩
      case round =>
        obtain ⟨i, rfl, hik, hst, howw, hown⟩ := hrel
        have hwq : wo.heap.size < wr.heap.size := (hown.lt _ rfl).2
        have HST := Lib.hid hst
        have HOWN := Lib.hid hown
        have HOWW := Lib.hid howw
        clear hst hown howw HST2 HWW HO0
        have hwt' := HWT.out
        by_cases hlt2 : i < s2
        · have hne : wo.heap.size ≠ wc.heap.size + 1 + 1 := by omega
          have hne2 : wo.heap.size ≠ wc.heap.size + 1 := by omega
          have hne3 : wt.heap.size ≠ wc.heap.size + 1 + 1 := by omega
          have hne4 : wo.heap.size ≠ wt.heap.size := by omega
          have c1 := HST.out.call (by omega) (by omega) (by omega) (by omega)
          obtain ⟨x, hx⟩ : ∃ x, el xs t (2 * k + i) = x := ⟨_, rfl⟩
          rw [hx] at c1
          have C1 := Lib.hid c1
          have HX := Lib.hid hx
          clear c1 hx hwt'
          go_wp2_with (go_at_call 51; (with_reducible refine C1.out.mono ?_); rintro e w2 ⟨rfl, hs2, hg2⟩; have ho2 := own_other HOWN.out hg2 (Ne.symm hne); have ho1 := own_other HOWW.out hg2 (Ne.symm hne3); have hw2 : wo.heap.size < w2.heap.size := (ho2.lt _ rfl).2; obtain ⟨⟨u0, q0⟩, ⟨u1, q1⟩, f0, f1⟩ := own_cells ho2 (rowTo_len _ _ _) i hlt2; have HS2 := Lib.hid hs2; have HO2 := Lib.hid ho2; have HO1 := Lib.hid ho1; clear hs2 hg2 ho2 ho1)
          obtain ⟨ho3, hg3⟩ := own_set HO2.out (rowTo_len _ _ _) i x.1 x.2
          rw [show (x.1, x.2) = el xs t (2 * k + i) from HX.out.symm, ← rowTo_set (fun i => el xs t (2 * k + i))] at ho3
          have hz := HWT.out
          refine ⟨⟨i + 1, by go_num, hlt2, ?_, ?_, ?_⟩, by simp [intOf]; omega⟩
          · exact HS2.out.grown hg3 (by omega) (by omega) hne hne2 (by omega)
          · exact own_other HO1.out hg3 hne4
          · exact ho3
        · have e : i = s2 := by omega
          subst e
          clear hwt'
          go_wp2
          have hstay : rowTo (fun j => el xs t (2 * k + j)) i i = stay xs t many room := by
            rw [rowTo_all]
            unfold stay
            rw [← HS.out, ← HG.out]
            exact List.map_congr_left fun j _ => Lm.stay_told
          have hwent : rowTo (two xs t) k k = went xs t many room := by
            rw [rowTo_all]
            unfold went
            rw [HG.out]
          have hleft : ((p1 : Int) + p2 - k) = (leftN xs.length many room : Nat) := by
            unfold leftN
            rw [← HP.out, HG.out]
            omega
          have e1 : (stay xs t many room).length = i := by rw [← hstay, rowTo_len]
          have e2 : (went xs t many room).length = k := by rw [← hwent, rowTo_len]
          have o1 := HOWN.out
          have o2 := HOWW.out
          rw [hstay] at o1
          rw [hwent] at o2
          refine bodyPost_ret (results_tmp3 rfl _ _ _) rfl ⟨wo.heap.size, wt.heap.size, ?_, by omega, by omega, by omega, ?_, ?_, HST.out.2.2.2⟩
          · rw [e1, e2, ← hleft]
            rfl
          · rw [e1]
            exact o1
          · rw [e2]
            exact o2
end Go.Proofs.Ytafcgfhkeceiaaa
