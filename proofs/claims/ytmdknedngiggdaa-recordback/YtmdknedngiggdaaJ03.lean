/- The contracts of level's teller, and of the function that it tells. · The contracts of slices.Grow and slices.Concat, as level calls them. · The contract of level.Push. · The contracts of the document's own level (skylightref05). -/
import Derived.Test.YtmdknedngiggdaaJ02
import Derived.Lib.AppendZeros
import Derived.BigQuiet
import Derived.Deep.CutRange
section
/- The contracts of level's teller, and of the function that it tells. -/
namespace Go.Proofs.Ytmdknedngiggdaa
open Go.RowKit Go.Proofs.Rw
open Go.Proofs.Lm (el)

theorem box1 {W : World} {b : Nat} {v : Value} {t : TypeId} (h : W.heap[b]? = some (.cells #[v] t)) : W.cell? ⟨b, 0, none⟩ = some v ∧ W.frozen? ⟨b, 0, none⟩ = false := by simp [World.cell?, World.frozen?, h]
theorem box2 {W : World} {b : Nat} {u v : Value} {t : TypeId} (h : W.heap[b]? = some (.cells #[u, v] t)) : W.cell? ⟨b, 0, none⟩ = some u ∧ W.cell? ⟨b, 1, none⟩ = some v ∧ W.frozen? ⟨b, 0, none⟩ = false ∧ W.frozen? ⟨b, 1, none⟩ = false := by simp [World.cell?, World.frozen?, h]
theorem lt_of {W : World} {b : Nat} {o : Obj} (h : W.heap[b]? = some o) : b < W.heap.size := (Array.getElem?_eq_some_iff.1 h).1
theorem set1 {w : World} {b o : Nat} {cs : Array Value} {t : TypeId} (u : Value) (h : w.heap[b]? = some (.cells cs t)) : (w.setCell ⟨b, o, none⟩ u).heap[b]? = some (.cells (cs.setIfInBounds o u) t) := heap_setCell_same w b o cs t u h
theorem grown_set (w : World) (b o : Nat) (u : Value) : w.grownBy (w.setCell ⟨b, o, none⟩ u) (some b) := ⟨rfl, rfl, rfl, by simp [World.setCell], fun k _ hk => Below.heap_setCell _ _ _ _ (fun e => hk (by simp [e]))⟩
theorem grown_trans {a b c : World} {k : Option Nat} (h : a.grownBy b k) (h2 : b.grownBy c k) : a.grownBy c k :=
  ⟨h2.os.trans h.os, h2.tape.trans h.tape, h2.output.trans h.output, Nat.le_trans h.size h2.size, fun i hi hn => (h2.block i (Nat.lt_of_lt_of_le hi h.size) hn).trans (h.block i hi hn)⟩
theorem grown_below {a b : World} {k : Option Nat} (h : Below a.heap.size a b) : a.grownBy b k := ⟨h.os, h.tape, h.output, h.size, fun i hi _ => h.block i hi⟩

end Go.Proofs.Ytmdknedngiggdaa
end
section
/- The contracts of slices.Grow and slices.Concat, as level calls them. -/
namespace Go.Proofs.Ytmdknedngiggdaa
open Go.RowKit Go.Proofs.Rw

theorem info_sp : (Try.prog.info? 73).map (fun i => (i.zero, i.size, i.bytes)) = some (some (.agg #[.int .u64 0, .int .u64 0]), 2, 16) := by kernel_rfl

/-- A row of buckets of the call's own. -/
abbrev Own (w : World) (base : Nat) (v : Value) (xs : List Sp) : Prop := w.ownsRow base 73 2 v xs.length (spL.cells xs)

def CatAt (xs ys : List Sp) (base : Nat) (w0 wr : World) (v : Value) (j : Value) : Prop :=
  ((j = .int .i64 0 ∧ Own wr base v []) ∨ (j = .int .i64 1 ∧ Own wr base v xs) ∨ (j = .int .i64 2 ∧ Own wr base v (xs ++ ys))) ∧ Below w0.heap.size w0 wr

end Go.Proofs.Ytmdknedngiggdaa
end
section
/- The contract of level.Push. -/
namespace Go.Proofs.Ytmdknedngiggdaa
open Go.RowKit Go.Proofs.Rw
open Go.Proofs.Lm (el two pairs wentN stayN leftN went stay)

/-- A row of n, of which k are there. -/
def rowTo (f : Nat → Sp) (n k : Nat) : List Sp := (List.range n).map fun j => if j < k then f j else (0, 0)
theorem rowTo_len (f : Nat → Sp) (n k : Nat) : (rowTo f n k).length = n := by simp [rowTo]
theorem rowTo_all (f : Nat → Sp) (n : Nat) : rowTo f n n = (List.range n).map f := by
  unfold rowTo
  refine List.map_congr_left fun j hj => ?_
  rw [if_pos (List.mem_range.1 hj)]
theorem rowTo_set (f : Nat → Sp) (n k : Nat) : rowTo f n (k + 1) = (rowTo f n k).set k (f k) := by
  apply List.ext_getElem
  · simp [rowTo]
  · intro i h1 h2
    simp only [rowTo, List.getElem_map, List.getElem_range, List.getElem_set]
    by_cases h : k = i
    · subst h; simp
    · rw [if_neg h]
      by_cases h' : i < k
      · rw [if_pos (by omega), if_pos h']
      · rw [if_neg (by omega), if_neg h']
theorem cells_set (xs : List Sp) (k : Nat) (a b : Nat) : spL.cells (xs.set k (a, b)) = ((spL.cells xs).set (k * 2) (.int .u64 a)).set (k * 2 + 1) (.int .u64 b) := by
  induction xs generalizing k with
  | nil => simp [Lay.cells]
  | cons x xs ih =>
    cases k with
    | zero => simp [Lay.cells, spL]
    | succ k =>
      rw [List.set_cons_succ, cells_cons, cells_cons, ih]
      show spL.enc x ++ _ = _
      rw [show spL.enc x = [.int .u64 x.1, .int .u64 x.2] from rfl, show (k + 1) * 2 = k * 2 + 1 + 1 by omega, show k * 2 + 1 + 1 + 1 = (k * 2 + 1) + 1 + 1 by omega]
      rfl
theorem made_zero (n : Nat) (f : Nat → Sp) : (madeCells (Value.agg #[.int .u64 0, .int .u64 0]).cells (n * 2)).toList = spL.cells (rowTo f n 0) := by
  apply List.ext_getElem?
  intro j
  by_cases hj : j < n * 2
  · obtain ⟨i, k, hk, rfl⟩ : ∃ i k, k < 2 ∧ j = i * 2 + k := ⟨j / 2, j % 2, by omega, by omega⟩
    have e := cells_at spL (rowTo f n 0) i k (by rw [rowTo_len]; omega) hk
    rw [show spL.size = 2 from rfl] at e
    rw [e]
    have : (rowTo f n 0)[i]'(by rw [rowTo_len]; omega) = (0, 0) := by simp [rowTo]
    rw [this]
    rcases k with _ | _ | k
    · simp [madeCells, Value.cells, spL, show i * 2 < n * 2 by omega]
    · simp [madeCells, Value.cells, spL, hj, show (i * 2 + 1) % 2 = 1 by omega]
    · omega
  · rw [List.getElem?_eq_none (by simp [madeCells]; omega), List.getElem?_eq_none (by rw [cells_len, rowTo_len]; show n * 2 ≤ j; omega)]

/-- Two stores into a row of the call's own. -/
theorem own_set {w : World} {base g n : Nat} {xs : List Sp} (h : Own w base (.slice (some ⟨g, 0, none⟩) n n) xs) (hn : xs.length = n) (k a b : Nat) :
    Own ((w.setCell ⟨g, k * 2, none⟩ (.int .u64 a)).setCell ⟨g, k * 2 + 1, none⟩ (.int .u64 b)) base (.slice (some ⟨g, 0, none⟩) n n) (xs.set k (a, b)) ∧
      w.grownBy ((w.setCell ⟨g, k * 2, none⟩ (.int .u64 a)).setCell ⟨g, k * 2 + 1, none⟩ (.int .u64 b)) (some g) := by
  unfold Own at *
  rw [hn] at h
  obtain ⟨h1, h2⟩ := h.stored (k * 2) (.int .u64 a)
  obtain ⟨h3, h4⟩ := h1.stored (k * 2 + 1) (.int .u64 b)
  rw [List.length_set, cells_set, hn]
  exact ⟨h3, grown_trans h2 h4⟩

theorem el_min (xs : List Sp) (t j : Nat) : el xs t (min j xs.length) = el xs t j := by
  rcases Nat.lt_or_ge j xs.length with h | h
  · rw [Nat.min_eq_left (by omega)]
  · rw [Nat.min_eq_right h, Lm.el_ge (Nat.le_refl _), Lm.el_ge h]
/-- The two cells of an element of an own row. -/
theorem own_cells {w : World} {base g n : Nat} {xs : List Sp} (h : Own w base (.slice (some ⟨g, 0, none⟩) n n) xs) (hn : xs.length = n) (k : Nat) (hk : k < n) :
    (∃ u, w.cell? ⟨g, k * 2, none⟩ = some u) ∧ (∃ u, w.cell? ⟨g, k * 2 + 1, none⟩ = some u) ∧ w.frozen? ⟨g, k * 2, none⟩ = false ∧ w.frozen? ⟨g, k * 2 + 1, none⟩ = false := by
  unfold Own at h
  rw [hn] at h
  have e0 := h.cellAt (k * 2) (by omega)
  have e1 := h.cellAt (k * 2 + 1) (by omega)
  have hcl : (spL.cells xs).length = n * 2 := by rw [cells_len, hn]; rfl
  rw [List.getElem?_eq_getElem (by omega)] at e0 e1
  exact ⟨⟨_, e0⟩, ⟨_, e1⟩, h.frozenAt _, h.frozenAt _⟩
theorem own_other {w w' : World} {base g n k : Nat} {xs : List Sp} (h : Own w base (.slice (some ⟨g, 0, none⟩) n n) xs) (hg : w.grownBy w' (some k)) (hk : k ≠ g) : Own w' base (.slice (some ⟨g, 0, none⟩) n n) xs :=
  h.kept hg (.inr (by simp [Value.ownBlock]; omega))

/-- For how many there is room. -/
def roomOf (most : Int) : Nat := (max most 1).toNat

/-- The three results of 'Push'. -/
def Pushed (w w' : World) (e : Ending) (stays wents : List Sp) (k : Nat) : Prop :=
  ∃ b1 b2 : Nat, e = .returned (.tuple #[.slice (some ⟨b1, 0, none⟩) stays.length stays.length, .slice (some ⟨b2, 0, none⟩) wents.length wents.length, .int .u64 (k : Int)]) ∧ w.heap.size ≤ b1 ∧ w.heap.size ≤ b2 ∧ b1 ≠ b2 ∧
    Own w' w.heap.size (.slice (some ⟨b1, 0, none⟩) stays.length stays.length) stays ∧ Own w' w.heap.size (.slice (some ⟨b2, 0, none⟩) wents.length wents.length) wents ∧ Below w.heap.size w w'

end Go.Proofs.Ytmdknedngiggdaa
end
section
/- The contracts of the document's own level (skylightref05). -/
namespace Go.Proofs.Ytmdknedngiggdaa
open Go.RowKit Go.Proofs.Rw
open Go.Proofs.Lm (el two pairs wentN stayN leftN went stay)

theorem rMost_any (k i : Int) (hk : k ≤ 9223372036854775806) (w : World) :
    Calls Try.prog 61 #[.int .i64 k, .int .i64 i] w fun e w' => e = .returned (.int .i64 (leastI k i + 1)) ∧ w = w' := by
  unfold leastI
  by_cases h0 : 0 ≤ k
  · by_cases hi : i = 0
    · subst hi
      rw [if_pos rfl]
      go_enter Try.func61, Try.ntmps61
      go_wp2
      go_ret
      exact ⟨ret_i (by omega), rfl⟩
    · rw [if_neg hi]
      have hb : (i == 0) = false := by simpa using hi
      go_enter Try.func61, Try.ntmps61
      go_wp2
      go_ret
      exact ⟨ret_i (by omega), rfl⟩
  · by_cases hi : i = 0
    · subst hi
      rw [if_pos rfl]
      go_enter Try.func61, Try.ntmps61
      go_wp2
      go_ret
      exact ⟨ret_i (by omega), rfl⟩
    · rw [if_neg hi]
      have hb : (i == 0) = false := by simpa using hi
      go_enter Try.func61, Try.ntmps61
      go_wp2
      go_ret
      exact ⟨ret_i (by omega), rfl⟩
theorem rLeast_any (k i : Int) (hk : k ≤ 9223372036854775806) (w : World) :
    Calls Try.prog 62 #[.int .i64 k, .int .i64 i] w fun e w' => e = .returned (.int .i64 (leastI k i)) ∧ w = w' := by
  have m1 := fun W => rMost_any k i hk W
  obtain ⟨h0, h1⟩ := leastI_le k i hk
  generalize leastI k i = m at *
  have M1 := Lib.hid m1
  clear m1
  go_enter Try.func62, Try.ntmps62
  go_wp2_with (go_at_call 61; (with_reducible refine (M1.out _).mono ?_); rintro e wn ⟨rfl, rfl⟩)
  go_ret
  exact ⟨ret_i (by omega), rfl⟩

/-- An own row's block holds buckets. -/
theorem own_ty {w : World} {base b : Nat} {v : Value} {xs : List Sp} (h : Own w base v xs) (hb : v.ownBlock = some b) : ∃ cur, w.heap[b]? = some (.cells cur 73 (0, 0)) := by
  rcases h.2 with ⟨rfl, _⟩ | ⟨g', cap, cur, rfl, _, hgb, _⟩
  · cases hb
  · injection hb with hb
    have : g' = b := hb
    subst this
    exact ⟨cur, hgb⟩
/-- One bucket, new in memory. -/
theorem lit1 (W : World) (n : Nat) (hn : W.heap.size = n) (a b : Nat) : Lies spL (W.alloc (.cells #[.int .u64 a, .int .u64 b] 73)) (n + 1) (.slice (some ⟨n, 0, none⟩) 1 1) [(a, b)] := by
  subst hn
  refine ⟨_, 1, rfl, by simp, by unfold maxLen; omega, .inr ⟨W.heap.size, 0, by omega, rfl, fun j u hu => ?_⟩⟩
  rw [World.cell?_alloc_at _ _ _ _ rfl]
  simp only [Lay.cells, spL, List.flatMap_cons, List.flatMap_nil, List.append_nil] at hu
  simpa using hu
theorem lit0 (W : World) (base : Nat) (hb : base ≤ W.heap.size) : Own (W.alloc (.cells #[] 73)) base (.slice (some ⟨W.heap.size, 0, none⟩) 0 0) [] :=
  own_new (L := spL) W 73 #[] 0 base [] rfl rfl hb (by unfold maxLen; omega)

/-- What 'Push' tells: two rows, and a number. -/
def RPushed (w w' : World) (e : Ending) (stays wents : List Sp) (k : Nat) : Prop :=
  ∃ v1 v2, e = .returned (.tuple #[v1, v2, .int .u64 (k : Int)]) ∧ Lies spL w' w'.heap.size v1 stays ∧ Lies spL w' w'.heap.size v2 wents ∧ Below w.heap.size w w'

/-- The same, and that both rows are new. -/
def RPushed2 (w w' : World) (e : Ending) (stays wents : List Sp) (k : Nat) : Prop :=
  ∃ v1 v2, e = .returned (.tuple #[v1, v2, .int .u64 (k : Int)]) ∧ Lies spL w' w'.heap.size v1 stays ∧ Lies spL w' w'.heap.size v2 wents ∧ Below w.heap.size w w' ∧ ∀ b, v1.ownBlock = some b ∨ v2.ownBlock = some b → w.heap.size ≤ b ∧ ∃ (cs : Array Value) (fr : Nat × Nat), w'.heap[b]? = some (.cells cs 73 fr)

set_option maxRecDepth 100000 in
set_option maxHeartbeats 4000000 in
theorem rPush_any2 (l add : List Sp) (most : Int) (many t : Nat) (hl : l.length + add.length ≤ 1000000) (hm : most ≤ 1000000) (hmany : many ≤ 4611686018427387904) (w : World) (A1 A2 : Option Addr) (c1 c2 : Nat)
    (h1 : Lies spL w w.heap.size (.slice A1 l.length c1) l) (h2 : Lies spL w w.heap.size (.slice A2 add.length c2) add) :
    Calls Try.prog 64 #[.slice A1 l.length c1, .int .i64 most, .slice A2 add.length c2, .int .u64 many, .int .u64 t] w fun e w' => RPushed2 w w' e (stay (l ++ add) t many (roomOf most)) (went (l ++ add) t many (roomOf most)) (leftN (l ++ add).length many (roomOf most)) := by
  obtain ⟨room, hroom⟩ : ∃ r, roomOf most = r := ⟨_, rfl⟩
  have hr0 : max most 1 = (room : Int) := by unfold roomOf at hroom; omega
  have hr2 : 1 ≤ room := by unfold roomOf at hroom; omega
  have hr3 : room ≤ 1000000 := by unfold roomOf at hroom; omega
  obtain ⟨xs, hxs⟩ : ∃ xs, l ++ add = xs := ⟨_, rfl⟩
  have hxl : xs.length ≤ 1000000 := by rw [← hxs, List.length_append]; exact hl
  obtain ⟨P, hP⟩ : ∃ p, pairs xs.length many room = p := ⟨_, rfl⟩
  obtain ⟨S, hS⟩ : ∃ s, stayN xs.length many room = s := ⟨_, rfl⟩
  obtain ⟨g, hg⟩ : ∃ g, wentN xs.length many room = g := ⟨_, rfl⟩
  have hSl : S ≤ 1000000 := by have := Lm.stayN_le (n := xs.length) (many := many) (room := room); omega
  have hgl : g ≤ 1000000 := by have := Lm.wentN_half xs.length many room; omega
  have hPS : 2 * P + S = xs.length + many := by
    have e1 := Lm.pairs_le (n := xs.length) (many := many) hr2
    have e2 : stayN xs.length many room = xs.length + many - 2 * pairs xs.length many room := rfl
    omega
  have hgP : g = min P ((xs.length + 1) / 2) := by rw [← hg, ← hP]; rfl
  have hPe : P = (xs.length + many - room + 1) / 2 := hP.symm
  rw [hroom, hxs]
  have HR0 := Lib.hid hr0
  have HXS := Lib.hid hxs
  have HP := Lib.hid hP
  have HS := Lib.hid hS
  have HGG := Lib.hid hg
  have HPS := Lib.hid hPS
  have HGP := Lib.hid hgP
  have HPE := Lib.hid hPe
  have H1 := Lib.hid h1
  have H2 := Lib.hid h2
  clear hr0 hxs hP hS hg hPS hgP hPe hroom h1 h2
  go_enter Try.func64, Try.ntmps64
  go_upto_region 1 with (fail)
  go_cut [1, 24] from 24 to 24 (fun s1 _ wx => s1 = .int .i64 room ∧ w = wx)
  case first =>
    by_cases h : 1 ≤ most
    · go_wp2
      go_meet
      case rel => exact ⟨by have := HR0.out; congr 1; omega, rfl⟩
    · go_wp2
      go_meet
      case rel => exact ⟨by have := HR0.out; congr 1; omega, rfl⟩
  case rest =>
    obtain ⟨rfl, rfl⟩ := hcut
    clear HR0 hm
    go_upto_region 3 with (at_builtin; refine wpList_app 73 _ 16 info_sp Try.underlying65 rfl (by decide) (by decide) _ rfl _ _ rfl w.heap.size _ _ [] l w.heap.size rfl (lit0 w w.heap.size (Nat.le_refl _)) rfl (H1.out.alloc (Nat.le_refl _) _) (sp_one _) (by simp; omega) (by simp) ?_; intro va w1 ho1 hg1; replace ho1 : Own w1 w.heap.size va l := ho1; obtain ⟨Aa, ca, rfl, _, _⟩ := own_form ho1; have HO1 := Lib.hid ho1; have HB1 := Lib.hid (((Below.refl _ w).alloc (Nat.le_refl _) _).grown hg1 (by simp) (fun k hk => (World.ownsRow.lt (lit0 w w.heap.size (Nat.le_refl _)) k hk).1)); clear ho1 hg1)
    go_upto_region 4 with (at_builtin; refine wpList_app 73 _ 16 info_sp Try.underlying65 rfl (by decide) (by decide) _ rfl _ _ rfl w.heap.size _ _ l add w.heap.size rfl HO1.out rfl (H2.out.below HB1.out) (sp_one _) (by omega) HB1.out.size ?_; intro vb w2 ho2 hg2; rw [HXS.out] at ho2; replace ho2 : Own w2 w.heap.size vb xs := ho2; obtain ⟨Ab, cb, rfl, hbl, hbm⟩ := own_form ho2; have HO2 := Lib.hid ho2; have HB2 := Lib.hid (HB1.out.grown hg2 HB1.out.size (fun k hk => (HO1.out.lt k hk).1)); have HBM := Lib.hid hbm; clear ho2 hg2 hbm)
    clear HO1 HB1 H1 H2
    have HL := Lib.hid (Lies.of_own (L := spL) HO2.out)
    clear HO2
    go_upto_if 40 with (fail)
    go_cut [15] from 23 to 46 (fun s15 wx => s15 = .int .u64 P ∧ w2 = wx)
    case first =>
      by_cases h : (room : Int) < xs.length + many
      · have b1 : (0 : Int) ≤ (xs.length : Int) + many - room := by omega
        have b2 : (xs.length : Int) + many - room ≤ 18446744073709551614 := by omega
        go_wp2
        go_meet
        case rel => exact ⟨by have := HPE.out; congr 1; omega, rfl⟩
      · have hb : decide ((room : Int) < xs.length + many) = false := by simpa using h
        go_wp2
        go_meet
        case rel => exact ⟨by have := HPE.out; congr 1; omega, rfl⟩
    case rest =>
      obtain ⟨rfl, rfl⟩ := hcut
      have hPb : P ≤ 4611686018427887904 := by have := HPE.out; omega
      have hPS1 : 2 * P ≤ xs.length + many := by have := HPS.out; omega
      clear HPE
      go_wp2
      go_loopw [17, 18] (fun v j wr => ∃ k : Nat, j = .int .u64 k ∧ k ≤ g ∧ Own wr w2.heap.size v ((List.range k).map (two xs t)) ∧ Below w2.heap.size w2 wr) (fun _ j _ => g - (intOf j).toNat)
      case atStart => exact ⟨0, rfl, Nat.zero_le _, World.ownsRow_nil _ _ _ _, Below.refl _ _⟩
      case round =>
        obtain ⟨k, rfl, hk, hown, hbel⟩ := hrel
        have HOWN := Lib.hid hown
        have HBEL := Lib.hid hbel
        have hgp := HGP.out
        by_cases hlt : k < g
        · have d1 : k < P := by omega
          have d2 : 2 * k < xs.length := by omega
          obtain ⟨b, off, rfl, hb, _, hcell⟩ := sp_at (HL.out.below hbel) (by omega)
          have hbs : b < wr.heap.size := Nat.lt_of_lt_of_le hb hbel.size
          obtain ⟨q0, _⟩ := hcell (2 * k) d2
          have hx1 : el xs t (2 * k) = xs[2 * k] := Lm.el_lt d2
          by_cases hl2 : 2 * k + 1 < xs.length
          · obtain ⟨_, q1⟩ := hcell (2 * k + 1) hl2
            have hx2 : el xs t (2 * k + 1) = xs[2 * k + 1] := Lm.el_lt hl2
            have htwo : two xs t k = (xs[2 * k].1, xs[2 * k + 1].2) := by unfold two; rw [hx1, hx2]
            generalize xs[2 * k] = x at *
            generalize xs[2 * k + 1] = y at *
            have HT := Lib.hid htwo
            clear hown hbel hgp hcell hx1 hx2 htwo
            go_wp2_with (at_builtin; refine wpList_app 73 _ 16 info_sp Try.underlying65 rfl (by decide) (by decide) _ rfl _ _ rfl w2.heap.size _ _ ((List.range k).map (two xs t)) [(x.1, y.2)] _ rfl (HOWN.out.alloc _) rfl (lit1 _ _ rfl x.1 y.2) (sp_one _) (by simp; omega) (by have := HBEL.out.size; simp; omega) ?_; intro v' w3 ho3 hg3; have HO3 := Lib.hid ho3; have HG3 := Lib.hid hg3; clear ho3 hg3)
            refine ⟨⟨k + 1, by go_num, hlt, ?_, (HBEL.out.alloc HBEL.out.size _).grown HG3.out (by have := HBEL.out.size; simp; omega) (fun j hj => (HOWN.out.lt j hj).1)⟩, by simp [intOf]; omega⟩
            have ho := HO3.out
            rw [← HT.out, ← Lm.range_snoc] at ho
            exact ho
          · have hx2 : el xs t (2 * k + 1) = (t, t) := Lm.el_ge (by omega)
            have htwo : two xs t k = (xs[2 * k].1, t) := by unfold two; rw [hx1, hx2]
            generalize xs[2 * k] = x at *
            have HT := Lib.hid htwo
            clear hown hbel hgp hcell hx1 hx2 htwo
            go_wp2_with (at_builtin; refine wpList_app 73 _ 16 info_sp Try.underlying65 rfl (by decide) (by decide) _ rfl _ _ rfl w2.heap.size _ _ ((List.range k).map (two xs t)) [(x.1, t)] _ rfl (HOWN.out.alloc _) rfl (lit1 _ _ rfl x.1 t) (sp_one _) (by simp; omega) (by have := HBEL.out.size; simp; omega) ?_; intro v' w3 ho3 hg3; have HO3 := Lib.hid ho3; have HG3 := Lib.hid hg3; clear ho3 hg3)
            refine ⟨⟨k + 1, by go_num, hlt, ?_, (HBEL.out.alloc HBEL.out.size _).grown HG3.out (by have := HBEL.out.size; simp; omega) (fun j hj => (HOWN.out.lt j hj).1)⟩, by simp [intOf]; omega⟩
            have ho := HO3.out
            rw [← HT.out, ← Lm.range_snoc] at ho
            exact ho
        · have hkg : k = g := by omega
          rename World => wo
          clear hown hbel
          go_upto_region 11 with (fail)
          go_cut [55] from 47 to 82 (fun s55 wx => s55 = .bool false ∧ wo = wx)
          case first =>
            by_cases hkP : k < P
            · have d2 : decide (2 * (k : Int) < (xs.length : Int)) = false := by simp; omega
              clear hgp hkg
              go_wp2
              go_meet
              case rel => exact ⟨by first | rfl | exact congrArg Value.bool d2, rfl⟩
            · clear hgp hkg
              go_wp2
              go_meet
              case rel => exact ⟨rfl, rfl⟩
          case rest =>
            obtain ⟨rfl, rfl⟩ := hcut
            subst hkg
            have hkP : k ≤ P := by omega
            obtain ⟨Av, cv, rfl, _, _⟩ := own_form HOWN.out
            clear hgp HGP hlt hk
            have HBEW := Lib.hid (thn HB2.out HBEL.out)
            go_wp2
            go_loopw [21, 22] (fun v j wr => ∃ i : Nat, j = .int .u64 (2 * (P : Int) + (i : Int)) ∧ i ≤ S ∧ Own wr wo.heap.size v ((List.range i).map fun i => el xs t (2 * P + i)) ∧ Below wo.heap.size wo wr) (fun _ j _ => S - ((intOf j).toNat - 2 * P))
            case atStart => exact ⟨0, by simp, Nat.zero_le _, World.ownsRow_nil _ _ _ _, Below.refl _ _⟩
            case round =>
              obtain ⟨i, rfl, hi, how2, hbe2⟩ := hrel
              have HOW2 := Lib.hid how2
              have HBE2 := Lib.hid hbe2
              have hps := HPS.out
              by_cases hlt : i < S
              · have d1 : 2 * (P : Int) + i < (xs.length : Int) + many := by omega
                by_cases hl2 : 2 * P + i < xs.length
                · have hL2 := HL.out.below (thn HBEL.out hbe2)
                  obtain ⟨b, off, rfl, hb, _, hcell⟩ := sp_at hL2 (by omega)
                  have hbs : b < wr.heap.size := Nat.lt_of_lt_of_le hb (thn HBEL.out hbe2).size
                  obtain ⟨q0, q1⟩ := hcell (2 * P + i) hl2
                  have hx : (xs[2 * P + i].1, xs[2 * P + i].2) = el xs t (2 * P + i) := (Lm.el_lt hl2).symm
                  have hti : (2 * (P : Int) + i).toNat = 2 * P + i := by omega
                  have d2 : 2 * (P : Int) + i < (xs.length : Int) := by omega
                  generalize xs[2 * P + i] = x at *
                  have HT := Lib.hid hx
                  clear how2 hbe2 hcell hx hps hL2
                  go_wp2_with (at_builtin; refine wpList_app 73 _ 16 info_sp Try.underlying65 rfl (by decide) (by decide) _ rfl _ _ rfl wo.heap.size _ _ ((List.range i).map fun i => el xs t (2 * P + i)) [(x.1, x.2)] _ rfl (HOW2.out.alloc _) rfl (lit1 _ _ rfl x.1 x.2) (sp_one _) (by simp; omega) (by have := HBE2.out.size; simp; omega) ?_; intro v' w3 ho3 hg3; have HO3 := Lib.hid ho3; have HG3 := Lib.hid hg3; clear ho3 hg3)
                  refine ⟨⟨i + 1, by omega, hlt, ?_, (HBE2.out.alloc HBE2.out.size _).grown HG3.out (by have := HBE2.out.size; simp; omega) (fun j hj => (HOW2.out.lt j hj).1)⟩, by simp [intOf]; omega⟩
                  have ho := HO3.out
                  rw [HT.out, ← Lm.range_snoc (fun i => el xs t (2 * P + i))] at ho
                  exact ho
                · have hx : (t, t) = el xs t (2 * P + i) := (Lm.el_ge (by omega)).symm
                  have HT := Lib.hid hx
                  have d2 : ¬ (2 * (P : Int) + i < (xs.length : Int)) := by omega
                  clear how2 hbe2 hx hps
                  go_wp2_with (at_builtin; refine wpList_app 73 _ 16 info_sp Try.underlying65 rfl (by decide) (by decide) _ rfl _ _ rfl wo.heap.size _ _ ((List.range i).map fun i => el xs t (2 * P + i)) [(t, t)] _ rfl (HOW2.out.alloc _) rfl (lit1 _ _ rfl t t) (sp_one _) (by simp; omega) (by have := HBE2.out.size; simp; omega) ?_; intro v' w3 ho3 hg3; have HO3 := Lib.hid ho3; have HG3 := Lib.hid hg3; clear ho3 hg3)
                  refine ⟨⟨i + 1, by omega, hlt, ?_, (HBE2.out.alloc HBE2.out.size _).grown HG3.out (by have := HBE2.out.size; simp; omega) (fun j hj => (HOW2.out.lt j hj).1)⟩, by simp [intOf]; omega⟩
                  have ho := HO3.out
                  rw [HT.out, ← Lm.range_snoc (fun i => el xs t (2 * P + i))] at ho
                  exact ho
              · have e : i = S := by omega
                subst e
                have d1 : ¬ (2 * (P : Int) + i < (xs.length : Int) + many) := by omega
                clear how2 hbe2 hps
                go_wp2
                have o1 := HOW2.out
                have o2 := HOWN.out
                have e1 : ((List.range i).map fun i => el xs t (2 * P + i)) = stay xs t many room := by unfold stay; rw [HP.out, HS.out]
                have e2 : (List.range k).map (two xs t) = went xs t many room := by unfold went; rw [HGG.out]
                have e3 : ((P : Int) - k) = (leftN xs.length many room : Nat) := by unfold leftN; rw [HP.out, HGG.out]; omega
                have o3 := (Lies.of_own (L := spL) o2).grow HBE2.out
                have o4 := Lies.of_own (L := spL) o1
                rw [e1] at o4
                rw [e2, show (went xs t many room).length = k from by rw [Lm.went_len, HGG.out]] at o3
                refine bodyPost_ret (results_tmp3 rfl _ _ _) rfl ⟨_, _, ?_, o4, o3, thn HBEW.out HBE2.out, ?_⟩
                · rw [← e3]
                  rfl
                · have z1 := HBEW.out.size
                  have z2 := HB2.out.size
                  intro b hb
                  rcases hb with hb | hb
                  · have := (o1.lt b hb).1
                    obtain ⟨cs, hcs⟩ := own_ty o1 hb
                    exact ⟨by omega, cs, _, hcs⟩
                  · have hb' : (Value.slice Av (List.map (two xs t) (List.range k)).length cv).ownBlock = some b := by rw [List.length_map, List.length_range]; exact hb
                    have hlt := HOWN.out.lt b hb'
                    obtain ⟨cs, hcs⟩ := own_ty HOWN.out hb'
                    exact ⟨by omega, cs, _, (HBE2.out.block b hlt.2).trans hcs⟩

theorem rPush_any (l add : List Sp) (most : Int) (many t : Nat) (hl : l.length + add.length ≤ 1000000) (hm : most ≤ 1000000) (hmany : many ≤ 4611686018427387904) (w : World) (A1 A2 : Option Addr) (c1 c2 : Nat)
    (h1 : Lies spL w w.heap.size (.slice A1 l.length c1) l) (h2 : Lies spL w w.heap.size (.slice A2 add.length c2) add) :
    Calls Try.prog 64 #[.slice A1 l.length c1, .int .i64 most, .slice A2 add.length c2, .int .u64 many, .int .u64 t] w fun e w' => RPushed w w' e (stay (l ++ add) t many (roomOf most)) (went (l ++ add) t many (roomOf most)) (leftN (l ++ add).length many (roomOf most)) :=
  (rPush_any2 l add most many t hl hm hmany w A1 A2 c1 c2 h1 h2).mono fun _ _ ⟨v1, v2, a, b, c, d, _⟩ => ⟨v1, v2, a, b, c, d⟩

theorem below_drewN {B : Nat} {a w : World} (h : Below B a w) (n : Nat) : Below B a (w.drewN n) := ⟨h.os, h.tape, h.output, h.size, h.block⟩

set_option maxHeartbeats 1000000 in
theorem same_any (xs : List Sp) (hl : xs.length ≤ 10000000) (w : World) (B : Nat) (hB : B ≤ w.heap.size) (A1 A2 : Option Addr) (c1 c2 : Nat) (h1 : Lies spL w B (.slice A1 xs.length c1) xs) (h2 : Lies spL w B (.slice A2 xs.length c2) xs) :
    Calls Try.prog 59 #[.slice A1 xs.length c1, .slice A2 xs.length c2] w fun e w' => e = .returned (.bool true) ∧ Below w.heap.size w w' := by
  have H1 := Lib.hid h1
  have H2 := Lib.hid h2
  clear h1 h2
  go_enter Try.func59, Try.ntmps59
  go_wp2
  go_loopw [5] (fun j wr => ∃ k : Nat, j = .int .i64 k ∧ k ≤ xs.length ∧ Below w.heap.size w wr) (fun j _ => xs.length - (intOf j).toNat)
  case atStart => exact ⟨0, rfl, Nat.zero_le _, Below.refl _ _⟩
  case round =>
    obtain ⟨k, rfl, hk, hbel⟩ := hrel
    by_cases hlt : k < xs.length
    · obtain ⟨b1, o1, rfl, hb1, _, hc1⟩ := sp_at ((H1.out.mono hB).below hbel) (by omega)
      obtain ⟨b2, o2, rfl, hb2, _, hc2⟩ := sp_at ((H2.out.mono hB).below hbel) (by omega)
      obtain ⟨p0, p1⟩ := hc1 k hlt
      obtain ⟨q0, q1⟩ := hc2 k hlt
      have l1 : b1 < wr.heap.size := Nat.lt_of_lt_of_le hb1 hbel.size
      have l2 : b2 < wr.heap.size := Nat.lt_of_lt_of_le hb2 hbel.size
      generalize xs[k] = x at *
      have HB := Lib.hid hbel
      clear hbel hc1 hc2
      go_upto_region 6 with (fail)
      go_quiet (fail)
      go_wp2
      refine ⟨⟨k + 1, by go_num, hlt, below_drewN HB.out _⟩, by simp [intOf]; omega⟩
    · go_wp2
      go_ret
      exact ⟨rfl, hbel⟩

end Go.Proofs.Ytmdknedngiggdaa
end
