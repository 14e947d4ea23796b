/- Plain mathematics of With: what it tells, lumps in turn, groups of one tick, how far a merge has come. · A region that draws its order, walked by facts, all of it: of each operation one fact on the values and the world; each is shown out of the facts of those that it waits for; a fact lasts over the operations that may come up behind it. Stores, and operations without a slot, are let in. · For regions that call Add and lay what it tells into a new variable: facts that last. · Rows of histograms and of events in memory. -/
import Derived.Test.YtienfdnlekfmmaaJ09
import Derived.Test.YtienfdnlekfmmaaJ06
import Derived.Test.YtienfdnlekfmmaaJ08
section
/- Plain mathematics of With: what it tells, lumps in turn, groups of one tick, how far a merge has come. -/
namespace Go.Proofs.Lh
open Go.Proofs.Lm (Sp Turn)

/-- A histogram: K, Gen, its levels. An event: its tick, its key, its weight. -/
abbrev Hm := Int × Int × Lv
abbrev Ev := Nat × Nat × Nat

def gmax (ms : List Hm) : Int := ms.foldl (fun g m => max g m.2.1) 0
theorem gmax_take {ms : List Hm} {i : Nat} (h : i < ms.length) : gmax (ms.take (i + 1)) = max (gmax (ms.take i)) ms[i].2.1 := by
  unfold gmax
  rw [List.take_succ_eq_append_getElem h, List.foldl_append]
  rfl
theorem gmax_all (ms : List Hm) : gmax (ms.take ms.length) = gmax ms := by rw [List.take_length]
theorem gmax_le_aux (B : Int) : ∀ (ms : List Hm) (g : Int), g ≤ B → (∀ m ∈ ms, m.2.1 ≤ B) → ms.foldl (fun g m => max g m.2.1) g ≤ B
  | [], g, h, _ => h
  | m :: ms, g, h, hm => by
    rw [List.foldl_cons]
    exact gmax_le_aux B ms _ (by have := hm m List.mem_cons_self; omega) fun x hx => hm x (List.mem_cons_of_mem _ hx)
theorem gmax_le {ms : List Hm} {B : Int} (h0 : 0 ≤ B) (h : ∀ m ∈ ms, m.2.1 ≤ B) : gmax ms ≤ B := gmax_le_aux B ms 0 h0 h
theorem gmax_ge_aux : ∀ (ms : List Hm) (g : Int), g ≤ ms.foldl (fun g m => max g m.2.1) g ∧ ∀ m ∈ ms, m.2.1 ≤ ms.foldl (fun g m => max g m.2.1) g
  | [], g => ⟨Int.le_refl _, by simp⟩
  | m :: ms, g => by
    obtain ⟨h1, h2⟩ := gmax_ge_aux ms (max g m.2.1)
    rw [List.foldl_cons]
    refine ⟨by omega, fun x hx => ?_⟩
    rcases List.mem_cons.1 hx with rfl | hx
    · omega
    · exact h2 x hx
theorem gmax_nonneg (ms : List Hm) : 0 ≤ gmax ms := (gmax_ge_aux ms 0).1
theorem gmax_mem {ms : List Hm} {m : Hm} (h : m ∈ ms) : m.2.1 ≤ gmax ms := (gmax_ge_aux ms 0).2 m h

def lumpE (e : Ev) : Sp := (e.1, e.2.2)
def lumpAll (evs : List Ev) (ms : List Hm) : List Sp := (ms.flatMap fun m => lumpsOf 0 m.2.2) ++ evs.map lumpE
def totM (ms : List Hm) : Nat := (ms.map fun m => tot m.2.2).sum
def totE (evs : List Ev) : Nat := (evs.map fun e => e.2.2).sum
def kOne (ms : List Hm) : Int := (ms.head?.map fun m => m.1).getD 0
def lightB (evs : List Ev) : Bool := evs.all fun e => e.2.2 != 0
def earlyB (evs : List Ev) : Bool := evs.all fun e => decide (e.1 ≤ 9223372036854775807)
def alikeB (ms : List Hm) : Bool := ms.all fun m => m.1 == kOne ms
/-- What forbids a merge. -/
def badN (evs : List Ev) (ms : List Hm) : Nat :=
  if ms.length = 0 ∨ lightB evs = false then 1 else if alikeB ms = false then 9 else if 4 ≤ gmax ms then 10 else if earlyB evs = false then 6 else if 4503599627370496 < totM ms + totE evs then 5 else 0
def mergeL (k : Nat) (L : List Sp) : Lv := histOf k ((unitsOf L).mergeSort fun a b => decide (a ≤ b))
/-- What a merge tells. -/
def outM (evs : List Ev) (ms : List Hm) : Hm := if badN evs ms = 0 then (kOne ms, gmax ms + 1, mergeL (kOne ms).toNat (lumpAll evs ms)) else (0, 0, [])

theorem badN_zero {evs : List Ev} {ms : List Hm} (h : badN evs ms = 0) : 0 < ms.length ∧ lightB evs = true ∧ alikeB ms = true ∧ gmax ms < 4 ∧ earlyB evs = true ∧ totM ms + totE evs ≤ 4503599627370496 := by
  unfold badN at h
  split at h
  · omega
  rename_i h1
  split at h
  · omega
  rename_i h2
  split at h
  · omega
  rename_i h3
  split at h
  · omega
  rename_i h4
  split at h
  · omega
  rename_i h5
  refine ⟨by omega, ?_, by simpa using h2, by omega, by simpa using h4, by omega⟩
  have : ¬ lightB evs = false := fun e => h1 (.inr e)
  simpa using this

theorem units_len (ls : List Sp) : (unitsOf ls).length = (ls.map fun x => x.2).sum := by
  induction ls with
  | nil => rfl
  | cons x ls ih =>
    have e : unitsOf (x :: ls) = List.replicate x.2 x.1 ++ unitsOf ls := rfl
    rw [e, List.length_append, ih, List.length_replicate, List.map_cons, List.sum_cons]
theorem sum_perm {a b : List Sp} (h : a.Perm b) : (a.map fun x => x.2).sum = (b.map fun x => x.2).sum := by
  rw [← units_len, ← units_len]
  exact (units_perm h).length_eq
/-- Lumps in whatever turn, that rises. -/
theorem merge_fold (k : Nat) {all L : List Sp} (h : all.Perm L) (hs : all.Pairwise fun x y => x.1 ≤ y.1) : all.foldl (fun L x => addW k L x.1 x.2) [] = mergeL k L := by
  rw [fold_lumps]
  unfold mergeL
  congr 1
  refine List.Perm.eq_of_pairwise (le := (· ≤ ·)) (fun _ _ _ _ h1 h2 => Nat.le_antisymm h1 h2) (units_sorted hs) ?_ ((units_perm h).trans (List.mergeSort_perm _ _).symm)
  have := List.pairwise_mergeSort (le := fun a b : Nat => decide (a ≤ b)) (fun a b c h1 h2 => by simp at *; omega) (fun a b => by simp; omega) (unitsOf L)
  exact this.imp fun h => by simpa using h

/-! ### How far a merge has come -/

def upTo (k : Nat) (all : List Sp) (i : Nat) : Lv := (all.take i).foldl (fun L x => addW k L x.1 x.2) []
theorem upTo_zero (k : Nat) (all : List Sp) : upTo k all 0 = [] := by simp [upTo]
theorem upTo_succ (k : Nat) {all : List Sp} {i : Nat} (h : i < all.length) : upTo k all (i + 1) = addW k (upTo k all i) all[i].1 all[i].2 := by
  unfold upTo
  rw [List.take_succ_eq_append_getElem h, List.foldl_append]
  rfl
theorem upTo_all (k : Nat) (all : List Sp) : upTo k all all.length = all.foldl (fun L x => addW k L x.1 x.2) [] := by unfold upTo; rw [List.take_length]
theorem upTo_units (k : Nat) (all : List Sp) (i : Nat) : upTo k all i = histOf k (unitsOf (all.take i)) := fold_lumps k _

/-- Lumps that may come one behind the other. -/
structure Fine (k : Nat) (all : List Sp) : Prop where
  k2 : 2 ≤ k
  k1 : k ≤ 1024
  turn : all.Pairwise fun x y => x.1 ≤ y.1
  pos : ∀ x ∈ all, 1 ≤ x.2
  early : ∀ x ∈ all, x.1 ≤ 9223372036854775807
  small : (all.map fun x => x.2).sum ≤ 4503599627370496
theorem sum_take (all : List Sp) (i : Nat) : ((all.take i).map fun x => x.2).sum ≤ (all.map fun x => x.2).sum := by
  have e : (all.map fun x => x.2).sum = (((all.take i) ++ (all.drop i)).map fun x => x.2).sum := by rw [List.take_append_drop]
  rw [e, List.map_append, List.sum_append]
  omega
theorem Fine.made {k : Nat} {all : List Sp} (h : Fine k all) (i : Nat) : Made k (upTo k all i) := by
  rw [upTo_units]
  refine made_histOf h.k2 h.k1 (units_sorted (h.turn.sublist (List.take_sublist i all))) ?_
  rw [units_len]
  exact Nat.le_trans (sum_take all i) h.small
theorem Fine.code {k : Nat} {all : List Sp} (h : Fine k all) {i : Nat} (hi : i < all.length) : code (upTo k all i) all[i].1 all[i].2 = 0 := by
  have hp := h.pos _ (List.getElem_mem hi)
  have he := h.early _ (List.getElem_mem hi)
  have ht : tot (upTo k all i) = ((all.take i).map fun x => x.2).sum := by rw [upTo_units, tot_histOf, units_len]
  have hs : ((all.take (i + 1)).map fun x => x.2).sum = ((all.take i).map fun x => x.2).sum + all[i].2 := by
    rw [List.take_succ_eq_append_getElem hi, List.map_append, List.sum_append]
    simp
  have hle := sum_take all (i + 1)
  have hsm := h.small
  have hl : (lastOf (upTo k all i)).getD 0 ≤ all[i].1 := by
    cases i with
    | zero => rw [upTo_zero]; exact Nat.zero_le _
    | succ j =>
      have hj : j < all.length := by omega
      rw [upTo_succ k hj, addW_last k (by have := h.k2; omega) _ _ _ (h.made j).ok.shape (h.pos _ (List.getElem_mem hj))]
      exact List.pairwise_iff_getElem.1 h.turn j (j + 1) hj hi (by omega)
  unfold Lh.code
  rw [if_neg (by omega), if_neg (by omega), if_neg (by omega)]
theorem mem_bound {all : List Sp} {x : Sp} (h : x ∈ all) : x.2 ≤ (all.map fun x => x.2).sum := by
  induction all with
  | nil => cases h
  | cons y all ih =>
    rw [List.map_cons, List.sum_cons]
    rcases List.mem_cons.1 h with rfl | h
    · omega
    · have := ih h; omega

/-! ### Groups of one tick -/

def put1 (x : Sp) : List Sp → List Sp
  | [] => [x]
  | y :: g => if x.1 = y.1 then (x.1, x.2 + y.2) :: g else x :: y :: g
theorem put1_cons (x y : Sp) (g : List Sp) : put1 x (y :: g) = if x.1 = y.1 then (x.1, x.2 + y.2) :: g else x :: y :: g := rfl
def grp (all : List Sp) : List Sp := all.foldr put1 []
theorem grp_cons (x : Sp) (r : List Sp) : grp (x :: r) = put1 x (grp r) := rfl
theorem units_put1 (x : Sp) (g : List Sp) : unitsOf (put1 x g) = List.replicate x.2 x.1 ++ unitsOf g := by
  cases g with
  | nil => rfl
  | cons y g =>
    rw [put1_cons]
    split
    · rename_i h
      have e : unitsOf ((x.1, x.2 + y.2) :: g) = List.replicate (x.2 + y.2) x.1 ++ unitsOf g := rfl
      have e2 : unitsOf (y :: g) = List.replicate y.2 y.1 ++ unitsOf g := rfl
      rw [e, e2, ← h, ← List.append_assoc, List.replicate_append_replicate]
    · rfl
theorem units_grp : ∀ all : List Sp, unitsOf (grp all) = unitsOf all
  | [] => rfl
  | x :: r => by rw [grp_cons, units_put1, units_grp r]; rfl
theorem put1_head (x : Sp) (g : List Sp) : ∃ n g', put1 x g = (x.1, n) :: g' := by
  cases g with
  | nil => exact ⟨x.2, [], rfl⟩
  | cons y g =>
    rw [put1_cons]
    split
    · exact ⟨_, _, rfl⟩
    · exact ⟨x.2, _, rfl⟩
theorem grp_run (t : Nat) (rest : List Sp) (hrest : ∀ y, rest.head? = some y → y.1 ≠ t) : ∀ run : List Sp, run ≠ [] → (∀ x ∈ run, x.1 = t) → grp (run ++ rest) = (t, (run.map fun x => x.2).sum) :: grp rest
  | [], h, _ => absurd rfl h
  | [x], _, h => by
    have hx := h x List.mem_cons_self
    show put1 x (grp rest) = _
    have e : [x].map (fun x : Sp => x.2) = [x.2] := rfl
    rw [e, List.sum_cons, List.sum_nil, Nat.add_zero, ← hx]
    cases rest with
    | nil => rfl
    | cons y r =>
      have hy := hrest y rfl
      obtain ⟨n, g', e⟩ := put1_head y (grp r)
      rw [grp_cons, e]
      rw [put1_cons, if_neg (by rw [hx]; exact fun e => hy e.symm)]
  | x :: y :: r, _, h => by
    have hx := h x List.mem_cons_self
    have ih := grp_run t rest hrest (y :: r) (by simp) fun z hz => h z (List.mem_cons_of_mem _ hz)
    show put1 x (grp (y :: r ++ rest)) = _
    rw [ih]
    rw [put1_cons, if_pos hx, hx, List.map_cons (l := y :: r), List.sum_cons]
theorem grp_mem : ∀ {all : List Sp} {y : Sp}, y ∈ grp all → (∃ x ∈ all, y.1 = x.1) ∧ ((∀ x ∈ all, 1 ≤ x.2) → 1 ≤ y.2)
  | [], _, h => by cases h
  | x :: r, y, h => by
    rw [grp_cons] at h
    have ih := fun {y : Sp} (h : y ∈ grp r) => grp_mem h
    generalize grp r = g at h ih
    cases g with
    | nil =>
      have : y = x := by simpa [put1] using h
      subst this
      exact ⟨⟨y, List.mem_cons_self, rfl⟩, fun hp => hp y List.mem_cons_self⟩
    | cons z g =>
      rw [put1_cons] at h
      split at h
      · rcases List.mem_cons.1 h with rfl | h
        · exact ⟨⟨x, List.mem_cons_self, rfl⟩, fun hp => by have := hp x List.mem_cons_self; show 1 ≤ x.2 + z.2; omega⟩
        · obtain ⟨⟨a, ha, e⟩, h2⟩ := ih (List.mem_cons_of_mem _ h)
          exact ⟨⟨a, List.mem_cons_of_mem _ ha, e⟩, fun hp => h2 fun b hb => hp b (List.mem_cons_of_mem _ hb)⟩
      · rcases List.mem_cons.1 h with rfl | h
        · exact ⟨⟨y, List.mem_cons_self, rfl⟩, fun hp => hp y List.mem_cons_self⟩
        · obtain ⟨⟨a, ha, e⟩, h2⟩ := ih h
          exact ⟨⟨a, List.mem_cons_of_mem _ ha, e⟩, fun hp => h2 fun b hb => hp b (List.mem_cons_of_mem _ hb)⟩
theorem grp_turn : ∀ {all : List Sp}, all.Pairwise (fun x y => x.1 ≤ y.1) → (grp all).Pairwise fun x y => x.1 ≤ y.1
  | [], _ => List.Pairwise.nil
  | x :: r, h => by
    have hp := List.pairwise_cons.1 h
    have ih := grp_turn hp.2
    have hm : ∀ y ∈ grp r, x.1 ≤ y.1 := fun y hy => by
      obtain ⟨⟨a, ha, e⟩, _⟩ := grp_mem hy
      rw [e]
      exact hp.1 a ha
    rw [grp_cons]
    generalize grp r = g at ih hm
    cases g with
    | nil => exact List.pairwise_singleton _ _
    | cons z g =>
      have hz := List.pairwise_cons.1 ih
      rw [put1_cons]
      split
      · exact List.pairwise_cons.2 ⟨fun y hy => hm y (List.mem_cons_of_mem _ hy), hz.2⟩
      · exact List.pairwise_cons.2 ⟨hm, ih⟩
theorem Fine.grp {k : Nat} {all : List Sp} (h : Fine k all) : Fine k (grp all) where
  k2 := h.k2
  k1 := h.k1
  turn := grp_turn h.turn
  pos y hy := (grp_mem hy).2 h.pos
  early y hy := by
    obtain ⟨⟨a, ha, e⟩, _⟩ := grp_mem hy
    rw [e]
    exact h.early a ha
  small := by
    rw [← units_len, units_grp, units_len]
    exact h.small
theorem upTo_grp (k : Nat) (all : List Sp) : upTo k (grp all) (grp all).length = upTo k all all.length := by
  rw [upTo_units, upTo_units, List.take_length, List.take_length, units_grp]

/-! ### Lumps in the program's turn -/

def lotsTo (ls : Lv) (j : Nat) : List Sp := (List.range j).flatMap fun i => (lev ls i).map fun b => (b.2, 2 ^ i)
theorem lotsTo_succ (ls : Lv) (j : Nat) : lotsTo ls (j + 1) = lotsTo ls j ++ (lev ls j).map fun b => (b.2, 2 ^ j) := by
  unfold lotsTo
  rw [List.range_succ, List.flatMap_append]
  simp
theorem lots_aux : ∀ (ls : Lv) (i : Nat), (((List.range ls.length).flatMap fun j => (lev ls j).map fun b => (b.2, 2 ^ (i + j))) : List Sp).Perm (lumpsOf i ls)
  | [], _ => List.Perm.refl _
  | l :: ls, i => by
    have ih := lots_aux ls (i + 1)
    rw [List.length_cons, List.range_succ_eq_map, List.flatMap_cons, List.flatMap_map, lumpsOf]
    have e : ((List.range ls.length).flatMap fun j => (lev (l :: ls) (Nat.succ j)).map fun b => ((b.2, 2 ^ (i + Nat.succ j)) : Sp)) = (List.range ls.length).flatMap fun j => (lev ls j).map fun b => (b.2, 2 ^ (i + 1 + j)) := by
      congr 1
      funext j
      rw [show i + Nat.succ j = i + 1 + j by omega]
      rfl
    rw [e]
    refine (List.perm_append_comm).trans ?_
    exact ih.append (List.Perm.refl _)
theorem lots_perm (ls : Lv) : (lotsTo ls ls.length).Perm (lumpsOf 0 ls) := by
  have := lots_aux ls 0
  simp only [Nat.zero_add] at this
  exact this
def lotsP (evs : List Ev) (ms : List Hm) : List Sp := (ms.flatMap fun m => lotsTo m.2.2 m.2.2.length) ++ evs.map lumpE
theorem lotsP_perm (evs : List Ev) (ms : List Hm) : (lotsP evs ms).Perm (lumpAll evs ms) := by
  unfold lotsP lumpAll
  refine List.Perm.append ?_ (List.Perm.refl _)
  induction ms with
  | nil => exact List.Perm.refl _
  | cons m ms ih =>
    rw [List.flatMap_cons, List.flatMap_cons]
    exact (lots_perm m.2.2).append ih
theorem flat_take {α β : Type} (f : α → List β) {l : List α} {i : Nat} (h : i < l.length) : (l.take (i + 1)).flatMap f = (l.take i).flatMap f ++ f l[i] := by
  rw [List.take_succ_eq_append_getElem h, List.flatMap_append]
  simp
theorem map_take1 {α β : Type} (f : α → β) {l : List α} {i : Nat} (h : i < l.length) : (l.take (i + 1)).map f = (l.take i).map f ++ [f l[i]] := by
  rw [List.take_succ_eq_append_getElem h, List.map_append]
  rfl
/-- The document's turn: the last level first. -/
theorem lumps_step {ls : Lv} {j : Nat} (h : j < ls.length) : lumpsOf j (ls.drop j) = lumpsOf (j + 1) (ls.drop (j + 1)) ++ (lev ls j).map fun b => (b.2, 2 ^ j) := by
  rw [drop_lev h, lumpsOf]

/-! ### What a merge makes of histograms that were made -/

structure Good (m : Hm) : Prop where
  pos : 0 ≤ m.1
  made : Made m.1.toNat m.2.2
  early : ∀ b ∈ allOf m.2.2, b.2 ≤ 9223372036854775807
  gen0 : 0 ≤ m.2.1
  gen4 : m.2.1 ≤ 4
theorem lumps_pos : ∀ {L : Lv} {i : Nat} {x : Sp}, x ∈ lumpsOf i L → 1 ≤ x.2
  | [], _, _, h => by cases h
  | l :: ls, i, x, h => by
    rw [lumpsOf] at h
    rcases List.mem_append.1 h with h | h
    · exact lumps_pos h
    · obtain ⟨b, hb, rfl⟩ := List.mem_map.1 h
      exact Nat.one_le_two_pow
theorem lumpAll_sum (evs : List Ev) (ms : List Hm) : ((lumpAll evs ms).map fun x => x.2).sum = totM ms + totE evs := by
  unfold lumpAll totM totE
  rw [List.map_append, List.sum_append, List.map_map]
  congr 1
  rw [← units_len, units_flat, List.length_flatMap]
  congr 1
  refine List.map_congr_left fun m _ => ?_
  rw [lumps_len, tot_eq]
theorem kOne_mem {ms : List Hm} (h : 0 < ms.length) : ∃ m ∈ ms, m.1 = kOne ms := by
  cases ms with
  | nil => simp at h
  | cons m ms => exact ⟨m, List.mem_cons_self, rfl⟩
theorem fine_all {evs : List Ev} {ms : List Hm} (hb : badN evs ms = 0) (hg : ∀ m ∈ ms, Good m) {all : List Sp} (hp : all.Perm (lumpAll evs ms)) (hs : all.Pairwise fun x y => x.1 ≤ y.1) : Fine (kOne ms).toNat all := by
  obtain ⟨h0, h1, h2, h3, h4, h5⟩ := badN_zero hb
  obtain ⟨m, hm, e⟩ := kOne_mem h0
  have hmd := (hg m hm).made
  rw [e] at hmd
  refine ⟨hmd.k2, hmd.k1, hs, fun x hx => ?_, fun x hx => ?_, ?_⟩
  · have hx := hp.mem_iff.1 hx
    unfold lumpAll at hx
    rcases List.mem_append.1 hx with hx | hx
    · obtain ⟨m', _, hx⟩ := List.mem_flatMap.1 hx
      exact lumps_pos hx
    · obtain ⟨ev, hev, rfl⟩ := List.mem_map.1 hx
      have := List.all_eq_true.1 h1 ev hev
      simp at this
      show 1 ≤ ev.2.2
      omega
  · have hx := hp.mem_iff.1 hx
    unfold lumpAll at hx
    rcases List.mem_append.1 hx with hx | hx
    · obtain ⟨m', hm', hx⟩ := List.mem_flatMap.1 hx
      obtain ⟨b, hb, e⟩ := lumps_mem hx
      rw [e]
      exact (hg m' hm').early b hb
    · obtain ⟨ev, hev, rfl⟩ := List.mem_map.1 hx
      have := List.all_eq_true.1 h4 ev hev
      simp at this
      exact this
  · rw [sum_perm hp, lumpAll_sum]
    exact h5
/-- A sorted list of all lumps: it is there. -/
theorem sorted_ex (L : List Sp) : ∃ all : List Sp, all.Perm L ∧ all.Pairwise fun x y => x.1 ≤ y.1 := by
  refine ⟨L.mergeSort fun a b => decide (a.1 ≤ b.1), List.mergeSort_perm _ _, ?_⟩
  have := List.pairwise_mergeSort (le := fun a b : Sp => decide (a.1 ≤ b.1)) (fun a b c h1 h2 => by simp at *; omega) (fun a b => by simp; omega) L
  exact this.imp fun h => by simpa using h
theorem seg_mem (i : Nat) : ∀ {l : List Sp} {us : List Nat}, Seg i l us → ∀ b ∈ l, b.2 ∈ us
  | [], _, _, b, hb => by cases hb
  | c :: l, us, ⟨u, v, e, _, _, h3, h4⟩, b, hb => by
    rw [e]
    rcases List.mem_cons.1 hb with rfl | hb
    · exact List.mem_append_left _ (List.mem_of_getLast? h3)
    · exact List.mem_append_right _ (seg_mem i h4 b hb)
theorem rep_mem : ∀ {L : Lv} {i : Nat} {us : List Nat}, Rep i L us → ∀ b ∈ allOf L, b.2 ∈ us
  | [], _, _, _, b, hb => by cases hb
  | l :: ls, i, us, ⟨uo, un, e, h1, h2⟩, b, hb => by
    rw [allOf] at hb
    rw [e]
    rcases List.mem_append.1 hb with hb | hb
    · exact List.mem_append_left _ (rep_mem h1 b hb)
    · exact List.mem_append_right _ (seg_mem i h2 b hb)
theorem units_mem {ls : List Sp} {u : Nat} (h : u ∈ unitsOf ls) : ∃ x ∈ ls, u = x.1 := by
  obtain ⟨x, hx, h⟩ := List.mem_flatMap.1 h
  exact ⟨x, hx, List.eq_of_mem_replicate h⟩
theorem merge_made {evs : List Ev} {ms : List Hm} (hb : badN evs ms = 0) (hg : ∀ m ∈ ms, Good m) : Good (kOne ms, gmax ms + 1, mergeL (kOne ms).toNat (lumpAll evs ms)) := by
  obtain ⟨h0, h1, h2, h3, h4, h5⟩ := badN_zero hb
  obtain ⟨m, hm, e⟩ := kOne_mem h0
  obtain ⟨all, hp, hs⟩ := sorted_ex (lumpAll evs ms)
  have hf := fine_all hb hg hp hs
  have hmd := hf.made all.length
  have hu := upTo_units (kOne ms).toNat all all.length
  rw [upTo_all, merge_fold _ hp hs] at hmd hu
  rw [List.take_length] at hu
  refine ⟨by show 0 ≤ kOne ms; rw [← e]; exact (hg m hm).pos, hmd, fun b hbb => ?_, by have := gmax_nonneg ms; show 0 ≤ gmax ms + 1; omega, by show gmax ms + 1 ≤ 4; omega⟩
  have hbb : b ∈ allOf (mergeL (kOne ms).toNat (lumpAll evs ms)) := hbb
  rw [hu] at hbb
  obtain ⟨x, hx, ex⟩ := units_mem (rep_mem (rep_histOf _ _) b hbb)
  rw [ex]
  exact hf.early x hx
theorem merge_tot {evs : List Ev} {ms : List Hm} (k : Nat) : tot (mergeL k (lumpAll evs ms)) = totM ms + totE evs := by
  unfold mergeL
  rw [tot_histOf, (List.mergeSort_perm _ _).length_eq, units_len, lumpAll_sum]

end Go.Proofs.Lh
end
section
/-
  A region that draws its order, walked by facts, all of it: of each operation one fact on the values and the world; each is shown out of the facts of those that it waits for; a fact lasts over the operations that may come up behind it. Stores, and operations without a slot, are let in.
-/
namespace Go.Proofs.Rf
open Go Go.RowKit

def dstO (ops : Array Oper) (i : Nat) : Option Nat := (ops[i]?).bind (·.dst)
def putO (ops : Array Oper) (us : Nat → Value) : Nat → Act → Act
  | 0, a => a
  | n + 1, a => (putO ops us n a).put (dstO ops n) (us n)
def upd (us : Nat → Value) (i : Nat) (v : Value) : Nat → Value := fun j => if j = i then v else us j
/-- What a slot held ahead of the region. -/
def initO (ops : Array Oper) (a : Act) (i : Nat) : Value := match dstO ops i with | some d => a.tmps.getD d undef | none => undef

/-- Each operation has a slot of its own, or none; it waits for earlier ones alone. -/
def okB (ops : Array Oper) (size : Nat) : Bool :=
  (List.range ops.size).all fun i =>
    (match dstO ops i with | some d => decide (d < size) && (List.range ops.size).all (fun j => j == i || dstO ops j != some d) | none => true) &&
    ((ops[i]?).map (·.after.all fun e => !Region.binds .any e || decide (e.on < i))).getD false

theorem putO_same {ops : Array Oper} {us vs : Nat → Value} {a : Act} : ∀ n, (∀ j, j < n → us j = vs j ∨ dstO ops j = none) → putO ops us n a = putO ops vs n a
  | 0, _ => rfl
  | n + 1, h => by
    rw [putO, putO, putO_same n (fun j hj => h j (by omega))]
    rcases h n (by omega) with e | e
    · rw [e]
    · rw [e]; rfl

theorem putO_put {ops : Array Oper} {us : Nat → Value} {a : Act} {i : Nat} {v : Value} : ∀ n, i < n → (∀ d, dstO ops i = some d → ∀ j, j < n → j ≠ i → dstO ops j ≠ some d) →
    (putO ops us n a).put (dstO ops i) v = putO ops (upd us i v) n a
  | 0, h, _ => absurd h (by omega)
  | n + 1, h, hd => by
    rw [putO, putO]
    by_cases e : i = n
    · subst e
      rw [putO_same (us := us) (vs := upd us i v) i (fun j hj => .inl (by simp [upd]; omega)), show upd us i v i = v by simp [upd]]
      cases dstO ops i with
      | none => rfl
      | some d => rw [put_put]
    · have hu : upd us i v n = us n := by simp [upd]; omega
      rw [Act.put_comm _ _ _ (fun d h1 h2 => by first | exact hd d h2 n (by omega) (by omega) h1 | exact hd d h1 n (by omega) (by omega) h2), putO_put n (by omega) (fun d hdd j hj => hd d hdd j (by omega)), hu]

theorem putO_start {ops : Array Oper} {a : Act} : ∀ n, (∀ j d, j < n → dstO ops j = some d → d < a.tmps.size) → putO ops (initO ops a) n a = a
  | 0, _ => rfl
  | n + 1, h => by
    rw [putO, putO_start n (fun j d hj => h j d (by omega))]
    unfold initO
    cases hd : dstO ops n with
    | none => rfl
    | some d => exact put_get a d (h n d (by omega) hd)

section
variable {P : Program} {ops : Array Oper} {Q : Exit → Act → World → Prop} {a0 : Act} {w0 : World}

theorem facts_all (G : World → Prop) (F : Nat → (Nat → Value) → World → Prop) (E : Nat → World → World → Prop) (hB : okB ops a0.tmps.size = true)
    (hloc : ∀ i us us' W, (∀ j, (j = i ∨ waits ops i j = true) → us j = us' j) → F i us W → F i us' W)
    (hst : ∀ i j us W W', i ≠ j → waits ops i j = false → i < ops.size → j < ops.size → E j W W' → F i us W → F i us W')
    (hG : ∀ j W W', E j W W' → G W → G W')
    (hop : ∀ i, i < ops.size → ∀ (us : Nat → Value) (W : World), G W → (∀ j, waits ops i j = true → F j us W) → (∀ j, waits ops j i = true → us j = initO ops a0 j) →
      wpOp P ops Q i (fun a' W' => ∃ v, a' = (putO ops us ops.size a0).put (dstO ops i) v ∧ E i W W' ∧ F i (upd us i v) W') (putO ops us ops.size a0) W)
    (hend : ∀ (us : Nat → Value) (W : World), G W → (∀ i, i < ops.size → F i us W) → Q .normal (putO ops us ops.size a0) W) :
    ∀ (m : Nat) (listed : Array Bool) (us : Nat → Value) (W : World), listed.size = ops.size →
      (∀ j oj, ops[j]? = some oj → listed.getD j false = true → ∀ e ∈ oj.after, Region.binds .any e = true → listed.getD e.on false = true) →
      (∀ j, j < ops.size → listed.getD j false = false → us j = initO ops a0 j) → unl (fun i => listed.getD i false) ops.size = m → G W → (∀ i, i < ops.size → listed.getD i false = true → F i us W) →
      wpAny P .any ops Q m listed (putO ops us ops.size a0) W := by
  have hB' : ∀ i, i < ops.size → (∀ d, dstO ops i = some d → d < a0.tmps.size ∧ ∀ j, j < ops.size → j ≠ i → dstO ops j ≠ some d) ∧ ∃ o, ops[i]? = some o ∧ ∀ e ∈ o.after, Region.binds .any e = true → e.on < i := by
    intro i hi
    have h := List.all_eq_true.1 hB i (List.mem_range.2 hi)
    simp only [Bool.and_eq_true] at h
    refine ⟨fun d hd => ?_, ?_⟩
    · rw [hd] at h
      simp only [Bool.and_eq_true, decide_eq_true_eq] at h
      refine ⟨h.1.1, fun j hj hne => ?_⟩
      have := List.all_eq_true.1 h.1.2 j (List.mem_range.2 hj)
      simpa [hne] using this
    · have h2 := h.2
      cases ho : ops[i]? with
      | none => rw [ho] at h2; simp at h2
      | some o =>
        rw [ho] at h2
        simp only [Option.map_some, Option.getD_some, Array.all_eq_true_iff_forall_mem, Bool.or_eq_true, Bool.not_eq_true', decide_eq_true_eq] at h2
        exact ⟨o, rfl, fun e he hb => (h2 e he).resolve_left (by simp [hb])⟩
  have hsz : ∀ {l : Array Bool} {j : Nat}, l.size = ops.size → j < ops.size → l.getD j true = l.getD j false := by
    intro l j hl hj
    simp [Array.getD, hl, hj]
  intro m
  induction m with
  | zero =>
    intro listed us W hl hcl hin hu hg hf
    have hall := unl_zero ops.size hu
    refine ⟨?_, hend us W hg (fun i hi => hf i hi (hall i hi))⟩
    cases hr : Region.ready .any ops listed with
    | nil => rfl
    | cons i r =>
      have hi : i ∈ Region.ready .any ops listed := by rw [hr]; simp
      rw [mem_ready] at hi
      obtain ⟨h1, o, ho, _⟩ := hi
      have hilt : i < ops.size := (Array.getElem?_eq_some_iff.1 ho).1
      rw [hsz hl hilt, hall i hilt] at h1
      cases h1
  | succ m ih =>
    intro listed us W hl hcl hin hu hg hf
    obtain ⟨i0, hi0, hi0f, hi0l⟩ := exists_least (f := fun i => listed.getD i false) ops.size (by omega)
    refine ⟨fun h0 => ?_, fun i hi => ?_⟩
    · obtain ⟨_, o, ho, hon⟩ := hB' i0 hi0
      have : i0 ∈ Region.ready .any ops listed := by
        rw [mem_ready]
        exact ⟨by rw [hsz hl hi0]; exact hi0f, o, ho, fun e he hb => hi0l e.on (hon e he hb)⟩
      rw [h0] at this
      cases this
    · rw [mem_ready] at hi
      obtain ⟨hi1, o, ho, hdep⟩ := hi
      have hilt : i < ops.size := (Array.getElem?_eq_some_iff.1 ho).1
      have hfi : listed.getD i false = false := by rw [← hsz hl hilt]; exact hi1
      have hwl : ∀ j, waits ops i j = true → j < ops.size ∧ listed.getD j false = true := by
        intro j hw
        obtain ⟨o', ho', e, he, hb, hon⟩ := waits_spec hw
        rw [ho] at ho'; cases ho'
        subst hon
        have h1 := (hB' i hilt).2
        obtain ⟨o2, ho2, h2⟩ := h1
        rw [ho] at ho2; cases ho2
        exact ⟨Nat.lt_trans (h2 e he hb) hilt, hdep e he hb⟩
      have hnw : ∀ j, j < ops.size → waits ops j i = true → listed.getD j false = false := by
        intro j hj hw
        obtain ⟨oj, hoj, e, he, hb, hon⟩ := waits_spec hw
        cases hlj : listed.getD j false with
        | false => rfl
        | true =>
          have := hcl j oj hoj hlj e he hb
          rw [hon, hfi] at this
          cases this
      refine wpOp_mono ?_ (hop i hilt us W hg (fun j hw => hf j (hwl j hw).1 (hwl j hw).2) (fun j hw => ?_))
      · rintro a' W' ⟨v, rfl, hE, hFv⟩
        rw [putO_put ops.size hilt (fun d hd j hj hne => ((hB' i hilt).1 d hd).2 j hj hne)]
        refine ih _ _ W' (by simp [hl]) ?_ ?_ ?_ (hG i W W' hE hg) ?_
        · intro j oj hj hjl e he hb
          by_cases hji : i = j
          · subst hji
            rw [ho] at hj; cases hj
            exact getD_set_true (hdep e he hb)
          · rw [getD_set_ne false hji] at hjl
            exact getD_set_true (hcl j oj hj hjl e he hb)
        · intro j hj hjl
          by_cases hji : i = j
          · subst hji
            simp [Array.getD, hl, hilt] at hjl
          · rw [getD_set_ne false hji] at hjl
            rw [show upd us i v j = us j by simp [upd]; omega]
            exact hin j hj hjl
        · have := unl_set (f := fun j => listed.getD j false) (g := fun j => (listed.setIfInBounds i true).getD j false) (i := i) hfi (by simp [Array.getD, hl, hilt]) (fun j hj => getD_set_ne false (Ne.symm hj)) ops.size hilt
          omega
        · intro j hj hjl
          by_cases hji : j = i
          · subst hji; exact hFv
          · rw [getD_set_ne false (Ne.symm hji)] at hjl
            have hwji : waits ops j i = false := by
              cases hw : waits ops j i with
              | false => rfl
              | true => have := hnw j hj hw; rw [hjl] at this; cases this
            refine hloc j us _ W' (fun k hk => ?_) (hst j i us W W' hji hwji hj hilt hE (hf j hj hjl))
            have hki : k ≠ i := by
              rintro rfl
              rcases hk with rfl | hk
              · exact hji rfl
              · rw [hk] at hwji; cases hwji
            simp [upd, hki]
      · have hj : j < ops.size := by
          obtain ⟨oj, hoj, _⟩ := waits_spec hw
          exact (Array.getElem?_eq_some_iff.1 hoj).1
        exact hin j hj (hnw j hj hw)

theorem unl_none {size : Nat} : ∀ k, k ≤ size → unl (fun i => (Array.replicate size false).getD i false) k = k
  | 0, _ => rfl
  | k + 1, h => by
    have e : (Array.replicate size false).getD k false = false := by simp [Array.getD, show k < size by omega]
    rw [unl, unl_none k (by omega), e]; simp
end

/-- The law for a region of code: all its operations by facts. 'fr us': the frame with the values us in the operations' slots. -/
theorem region_all {P : Program} {Q : Exit → Act → World → Prop} {id : Nat} {a : Act} {w : World} {l : List Oper} {fr : (Nat → Value) → Act} (F : Nat → (Nat → Value) → World → Prop) (E : Nat → World → World → Prop) (G : World → Prop)
    (hm : P.follows .mixedOrders = true) (hB : okB l.toArray a.tmps.size = true)
    (hfr : ∀ us, putO l.toArray us l.length a = fr us)
    (hloc : ∀ i us us' W, (∀ j, (j = i ∨ waits l.toArray i j = true) → us j = us' j) → F i us W → F i us' W)
    (hst : ∀ i j us W W', i ≠ j → waits l.toArray i j = false → i < l.length → j < l.length → E j W W' → F i us W → F i us W')
    (hG0 : G w.drew) (hG : ∀ j W W', E j W W' → G W → G W')
    (hop : ∀ i, i < l.length → ∀ (us : Nat → Value) (W : World), G W → (∀ j, waits l.toArray i j = true → F j us W) → (∀ j, waits l.toArray j i = true → us j = initO l.toArray a j) →
      wpOp P l.toArray Q i (fun a' W' => ∃ v, a' = (fr us).put (dstO l.toArray i) v ∧ E i W W' ∧ F i (upd us i v) W') (fr us) W)
    (hend : ∀ (us : Nat → Value) (W : World), G W → (∀ i, i < l.length → F i us W) → Q .normal (fr us) W) :
    (Code.region id l.toArray true).wp P Q a w := by
  refine wp_region_any hm ?_
  have hs : l.toArray.size = l.length := by simp
  have hd : ∀ j d, j < l.length → dstO l.toArray j = some d → d < a.tmps.size := by
    intro j d hj hd
    have h := List.all_eq_true.1 hB j (List.mem_range.2 (by rw [hs]; exact hj))
    simp only [Bool.and_eq_true] at h
    rw [hd] at h
    simp only [Bool.and_eq_true, decide_eq_true_eq] at h
    exact h.1.1
  have := facts_all (P := P) (ops := l.toArray) (Q := Q) (a0 := a) G F E hB hloc (fun i j us W W' h1 h2 h3 h4 => hst i j us W W' h1 h2 (by rw [← hs]; exact h3) (by rw [← hs]; exact h4)) hG
    (fun i hi us W hg hw hq => by rw [hs, hfr]; exact hop i (by rw [← hs]; exact hi) us W hg hw hq)
    (fun us W hg hf => by rw [hs, hfr]; exact hend us W hg (fun i hi => hf i (by rw [hs]; exact hi)))
    l.toArray.size (Array.replicate l.toArray.size false) (initO l.toArray a) w.drew (by simp)
    (fun j oj _ hl => by simp [Array.getD] at hl) (fun _ _ _ => rfl) (unl_none _ (Nat.le_refl _)) hG0 (fun i _ hl => by simp [Array.getD] at hl)
  rw [hs, putO_start l.length hd] at this
  rw [hs]
  exact this

section
variable {P : Program} {ops : Array Oper} {Q : Exit → Act → World → Prop} {a : Act} {W : World} {i : Nat} {o : Oper} {E : World → Prop} {F : Value → World → Prop}

/-- An operation that yields a value. -/
theorem all_value (hi : ops[i]? = some o) (hw : Region.wanted o (yielded ops a.tmps) = true) (v : Value) (W' : World) (hrun : (execOp a.eval o).run P W = .ok (.value v) W') (hE : E W') (hF : F v W') :
    wpOp P ops Q i (fun a' W' => ∃ v, a' = a.put (dstO ops i) v ∧ E W' ∧ F v W') a W := by
  unfold wpOp
  have hd : dstO ops i = o.dst := by simp [dstO, hi]
  simp only [hi, hw, if_true]
  refine .inl ?_
  unfold Oper.wp
  rw [hrun, Oper.upon_value, hd]
  exact ⟨v, rfl, hE, hF⟩

/-- An operation that hands nothing on (a store). -/
theorem all_skip (hi : ops[i]? = some o) (hw : Region.wanted o (yielded ops a.tmps) = true) (W' : World) (hrun : (execOp a.eval o).run P W = .ok .skip W') (hE : E W') (hF : F undef W') :
    wpOp P ops Q i (fun a' W' => ∃ v, a' = a.put (dstO ops i) v ∧ E W' ∧ F v W') a W := by
  unfold wpOp
  have hd : dstO ops i = o.dst := by simp [dstO, hi]
  simp only [hi, hw, if_true]
  refine .inl ?_
  unfold Oper.wp
  rw [hrun]
  unfold Oper.upon
  rw [hd]
  exact ⟨undef, rfl, hE, hF⟩

/-- An operation that calls. -/
theorem all_call (hi : ops[i]? = some o) (hw : Region.wanted o (yielded ops a.tmps) = true) (f : FuncId) (args : Array Value) (hrun : (execOp a.eval o).run P W = .ok (.enter f args) W)
    (hc : Calls P f args W fun e W' => ∃ v, e = .returned v ∧ E W' ∧ F v W') :
    wpOp P ops Q i (fun a' W' => ∃ v, a' = a.put (dstO ops i) v ∧ E W' ∧ F v W') a W := by
  unfold wpOp
  have hd : dstO ops i = o.dst := by simp [dstO, hi]
  simp only [hi, hw, if_true]
  refine .inl ?_
  unfold Oper.wp
  rw [hrun, Oper.upon_enter]
  refine hc.mono ?_
  rintro e W' ⟨v, rfl, hG, hF⟩
  exact ⟨v, by rw [hd], hG, hF⟩

/-- An operation that its guard passes over. -/
theorem all_off (hi : ops[i]? = some o) (hw : Region.wanted o (yielded ops a.tmps) = false) (hE : E W) (hF : F undef W) :
    wpOp P ops Q i (fun a' W' => ∃ v, a' = a.put (dstO ops i) v ∧ E W' ∧ F v W') a W := by
  unfold wpOp
  have hd : dstO ops i = o.dst := by simp [dstO, hi]
  simp only [hi, hw, hd]
  exact ⟨undef, rfl, hE, hF⟩
end

end Go.Proofs.Rf
end
section
/- For regions that call Add and lay what it tells into a new variable: facts that last. -/
namespace Go.Proofs.Ytienfdnlekfmmaa
open Go.RowKit Go.Shelf Go.Proofs.Rw Go.Proofs.Lh Go.Proofs.Rf

/-- Three cells of a new block of type T are written. -/
def St3 (T : TypeId) (B : Nat) (W W' : World) : Prop :=
  ∃ (p : Nat) (x y z x' y' z' : Value), B ≤ p ∧ W.heap[p]? = some (.cells #[x, y, z] T) ∧ W'.heap[p]? = some (.cells #[x', y', z'] T) ∧ W.grownBy W' (some p)
/-- What operation j of the region does; s is the store's number. -/
def Ea (T : TypeId) (B s j : Nat) (W W' : World) : Prop := Grows W W' ∨ (j = s ∧ St3 T B W W')
theorem Ea.below {T : TypeId} {B s j : Nat} {w W W' : World} (h : Ea T B s j W W') (hg : Below B w W) (hB : B ≤ W.heap.size) : Below B w W' := by
  rcases h with h | ⟨_, p, x, y, z, x', y', z', hp, _, _, hgr⟩
  · exact hg.trans (Below.mono h hB)
  · exact hg.grown hgr hB fun k e => by cases e; exact hp
/-- A new variable. -/
def Nw3 (T : TypeId) (B : Nat) (u : Value) (W : World) : Prop := ∃ (p : Nat) (x y z : Value), u = .pointer (some ⟨p, 0, none⟩) ∧ B ≤ p ∧ W.heap[p]? = some (.cells #[x, y, z] T)
theorem Nw3.ea {T : TypeId} {B s j : Nat} {W W' : World} (h : Ea T B s j W W') {u : Value} (hf : Nw3 T B u W) : Nw3 T B u W' := by
  obtain ⟨p, x, y, z, h3, h4, h5⟩ := hf
  rcases h with h | ⟨_, p', a, b, c, a', b', c', hp, hq, hq', hgr⟩
  · exact ⟨p, x, y, z, h3, h4, (Below.block h p (lt_of h5)).trans h5⟩
  · by_cases e : p = p'
    · subst e
      exact ⟨p, a', b', c', h3, h4, hq'⟩
    · exact ⟨p, x, y, z, h3, h4, (hgr.block p (lt_of h5) (by simpa using e)).trans h5⟩
/-- The store. -/
theorem st3_set {T : TypeId} {B p : Nat} {W : World} {x y z : Value} (hp : B ≤ p) (h : W.heap[p]? = some (.cells #[x, y, z] T)) (x' y' z' : Value) : St3 T B W (((W.setCell ⟨p, 0, none⟩ x').setCell ⟨p, 1, none⟩ y').setCell ⟨p, 2, none⟩ z') :=
  ⟨p, x, y, z, x', y', z', hp, h, set3 h x' y' z', grown3 x' y' z'⟩
theorem keep3 {p q : Nat} {W : World} (hne : q ≠ p) (x' y' z' : Value) : (((W.setCell ⟨p, 0, none⟩ x').setCell ⟨p, 1, none⟩ y').setCell ⟨p, 2, none⟩ z').heap[q]? = W.heap[q]? := by
  rw [Below.heap_setCell _ _ _ _ hne, Below.heap_setCell _ _ _ _ hne, Below.heap_setCell _ _ _ _ hne]

end Go.Proofs.Ytienfdnlekfmmaa
end
section
/- Rows of histograms and of events in memory. -/
namespace Go.Proofs.Rw
open Go Go.RowKit Go.Proofs.Lh

/-- A histogram, as it lies in a row: its numbers, its levels' slice, and what that holds. -/
structure Hx where
  k : Int
  g : Int
  A : Option Addr
  c : Nat
  ls : List (List Sp)
def Hx.m (x : Hx) : Hm := (x.k, x.g, x.ls)
def hxL : Lay Hx := ⟨3, fun x => [.int .i64 x.k, .int .i64 x.g, .slice x.A x.ls.length x.c], fun _ => rfl⟩
theorem hx_one (ys : List Hx) : ∀ y ∈ ys, ∀ u ∈ hxL.enc y, u.oneCell' = true := by
  intro y _ u hu
  simp only [hxL, List.mem_cons, List.not_mem_nil, or_false] at hu
  rcases hu with rfl | rfl | rfl <;> rfl
section
variable {w w' : World} {B B' : Nat} {v : Value} {xs : List Hx}
end

/-- Events. -/
def evL : Lay Ev := ⟨3, fun x => [.int .u64 x.1, .int .u64 x.2.1, .int .u64 x.2.2], fun _ => rfl⟩
theorem ev_one (ys : List Ev) : ∀ y ∈ ys, ∀ u ∈ evL.enc y, u.oneCell' = true := by
  intro y _ u hu
  simp only [evL, List.mem_cons, List.not_mem_nil, or_false] at hu
  rcases hu with rfl | rfl | rfl <;> rfl
theorem ev_at {w : World} {B : Nat} {A : Option Addr} {len cap : Nat} {xs : List Ev} (h : Lies evL w B (.slice A len cap) xs) (h0 : 0 < xs.length) : ∃ b off, A = some ⟨b, off, none⟩ ∧ b < B ∧ len = xs.length ∧
    ∀ i (hi : i < xs.length), w.cell? ⟨b, off + i * 3, none⟩ = some (.int .u64 xs[i].1) ∧ w.cell? ⟨b, off + i * 3 + 1, none⟩ = some (.int .u64 xs[i].2.1) ∧ w.cell? ⟨b, off + i * 3 + 2, none⟩ = some (.int .u64 xs[i].2.2) := by
  obtain ⟨b, off, hA, hb, hl, hc⟩ := h.addr h0
  refine ⟨b, off, hA, hb, hl, fun i hi => ⟨?_, ?_, ?_⟩⟩
  · exact hc i hi 0 _ rfl
  · exact hc i hi 1 _ rfl
  · exact hc i hi 2 _ rfl
/-- Events whose numbers fit. -/
def Fits3 (evs : List Ev) : Prop := ∀ e ∈ evs, e.1 < 18446744073709551616 ∧ e.2.1 < 18446744073709551616 ∧ e.2.2 < 18446744073709551616

/-- A slice of elements of three numbers that came in. -/
theorem ev_of_row {w : World} {A : Option Addr} {len cap : Nat} {z : Nat → Nat → Int} (h : Op.FlatRow [.u64, .u64, .u64] w A len cap z) :
    ∃ xs : List Ev, xs.length = len ∧ Lies evL w w.heap.size (.slice A len cap) xs ∧ Fits3 xs := by
  obtain ⟨h1, h2, h3⟩ := h
  have hl : ((List.range len).map fun i => ((z i 0).toNat, (z i 1).toNat, (z i 2).toNat)).length = len := by simp
  rcases h3 with rfl | ⟨b, off, rfl, hb, hc⟩
  · exact ⟨[], rfl, Lies.nil A cap h2, by intro e he; cases he⟩
  have key : ∀ i, i < len → 0 ≤ z i 0 ∧ z i 0 < 18446744073709551616 ∧ 0 ≤ z i 1 ∧ z i 1 < 18446744073709551616 ∧ 0 ≤ z i 2 ∧ z i 2 < 18446744073709551616 := by
    intro i hi
    obtain ⟨a0, a1⟩ := bounds_u64 (hc i hi 0 .u64 rfl).2
    obtain ⟨b0, b1⟩ := bounds_u64 (hc i hi 1 .u64 rfl).2
    obtain ⟨c0, c1⟩ := bounds_u64 (hc i hi 2 .u64 rfl).2
    omega
  refine ⟨(List.range len).map fun i => ((z i 0).toNat, (z i 1).toNat, (z i 2).toNat), hl, ⟨_, cap, by rw [hl], by rw [hl]; exact h1, h2, .inr ⟨b, off, hb, rfl, fun j u hu => ?_⟩⟩, fun x hx => ?_⟩
  · have hj : j < len * 3 := by
      have := (List.getElem?_eq_some_iff.1 hu).1
      rw [cells_len, hl] at this
      exact this
    obtain ⟨i, k, hk, rfl⟩ : ∃ i k, k < 3 ∧ j = i * 3 + k := ⟨j / 3, j % 3, by omega, by omega⟩
    have e := cells_at evL ((List.range len).map fun i => ((z i 0).toNat, (z i 1).toNat, (z i 2).toNat)) i k (by rw [hl]; omega) hk
    rw [show evL.size = 3 from rfl] at e
    rw [e] at hu
    simp only [List.getElem_map, List.getElem_range, evL] at hu
    have hk4 := key i (by omega)
    rcases k with _ | _ | _ | k
    · have h4 := (hc i (by omega) 0 .u64 rfl).1
      simp only [List.length_cons, List.length_nil] at h4
      rw [h4, ← hu]
      simp
      omega
    · have h4 := (hc i (by omega) 1 .u64 rfl).1
      simp only [List.length_cons, List.length_nil] at h4
      rw [h4, ← hu]
      simp
      omega
    · have h4 := (hc i (by omega) 2 .u64 rfl).1
      simp only [List.length_cons, List.length_nil] at h4
      rw [h4, ← hu]
      simp
      omega
    · omega
  · obtain ⟨i, hi, rfl⟩ := List.mem_map.1 hx
    have := key i (List.mem_range.1 hi)
    refine ⟨?_, ?_, ?_⟩ <;> simp only <;> omega

end Go.Proofs.Rw
namespace Go.Proofs.Ytienfdnlekfmmaa
open Go.RowKit Go.Shelf Go.Proofs.Rw Go.Proofs.Lh

/-- A row of lumps of the call's own. -/
abbrev OwnT (T : TypeId) (w : World) (base : Nat) (v : Value) (xs : List Sp) : Prop := w.ownsRow base T 2 v xs.length (spL.cells xs)
abbrev OwnH (T : TypeId) (w : World) (base : Nat) (v : Value) (xs : List Hx) : Prop := w.ownsRow base T 3 v xs.length (hxL.cells xs)
/-- A lump in a literal of one: what append is handed. -/
theorem lit_lump (T : TypeId) (W : World) (n : Nat) (hn : W.heap.size = n) (a b : Nat) : Lies spL (W.alloc (.cells #[.int .u64 a, .int .u64 b] T)) (n + 1) (.slice (some ⟨n, 0, none⟩) 1 1) [(a, b)] := by
  subst hn
  refine ⟨_, 1, rfl, by simp, by unfold maxLen; omega, .inr ⟨W.heap.size, 0, by omega, rfl, fun j u hu => ?_⟩⟩
  rw [Nat.zero_add, cell_of_row _ _ _ #[.int .u64 a, .int .u64 b] T (0, 0) (heap_alloc_new W _)]
  rw [cells_one] at hu
  simpa [spL] using hu
theorem lit_hist (T : TypeId) (W : World) (n : Nat) (hn : W.heap.size = n) (x : Hx) : Lies hxL (W.alloc (.cells #[.int .i64 x.k, .int .i64 x.g, .slice x.A x.ls.length x.c] T)) (n + 1) (.slice (some ⟨n, 0, none⟩) 1 1) [x] := by
  subst hn
  refine ⟨_, 1, rfl, by simp, by unfold maxLen; omega, .inr ⟨W.heap.size, 0, by omega, rfl, fun j u hu => ?_⟩⟩
  rw [Nat.zero_add, cell_of_row _ _ _ #[.int .i64 x.k, .int .i64 x.g, .slice x.A x.ls.length x.c] T (0, 0) (heap_alloc_new W _)]
  rw [cells_one] at hu
  simpa [hxL] using hu

end Go.Proofs.Ytienfdnlekfmmaa
end
