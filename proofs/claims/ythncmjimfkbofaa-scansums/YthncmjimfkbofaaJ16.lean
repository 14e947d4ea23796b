/- What has been told of a map's keys, in whatever turn; once sorted it is what the document tells. · slices.SortFunc's family, as it lies in this program: the table of numbers, and a field a fact of the program's own or the kernel's comparison. · slices.SortFunc, as scan calls it, on a row of the call's own: it holds a permutation of what it held, and rises by the ticks. · The contract of scan.Keys. -/
import Derived.Test.YthncmjimfkbofaaJ15
import Derived.Shelf.SlLaysF0
import Derived.Test.YthncmjimfkbofaaChecked
import Derived.Shelf.SlSortCmp.WholeK
import Derived.Test.YthncmjimfkbofaaJ11
section
/- What has been told of a map's keys, in whatever turn; once sorted it is what the document tells. -/
namespace Go.Proofs.Sc
open Go Go.Proofs.Lh
structure ToldK (p : Ev → Bool) (left : Lit → Bool) (l : List Ev) (m : List It) : Prop where
  nodup : m.Pairwise fun a b => a.1 ≠ b.1
  keys : ∀ j : Nat, (∃ x ∈ m, x.1 = j) ↔ (∃ e ∈ l, p e = true ∧ e.2.1 = j) ∧ left (.int .u64 (j : Int)) = false
  of : ∀ x ∈ m, x.2 = sumP (fun e => p e && decide (e.2.1 = x.1)) l % M64
theorem key_cast (p : Ev → Bool) (l : List Ev) (x : Nat) : sumP (fun e => p e && decide ((e.2.1 : Int) = (x : Int))) l = sumP (fun e => p e && decide (e.2.1 = x)) l :=
  sumP_congr fun e _ => by
    have : ((e.2.1 : Int) = (x : Int)) ↔ e.2.1 = x := by omega
    simp only [this]
theorem sums_has {p : Ev → Bool} {l : List Ev} {D : DataW Unit} (h : SumsM .u64 p (fun e => (e.2.1 : Int)) l D) (z : Int) : Maps.has D (.int .u64 z) = true ↔ ∃ e ∈ l, p e = true ∧ (e.2.1 : Int) = z := by
  rw [h.has, List.any_eq_true]
  simp
theorem told_start {p : Ev → Bool} {l : List Ev} {D : DataW Unit} (h : SumsM .u64 p (fun e => (e.2.1 : Int)) l D) : ToldK p (Maps.has D) l [] := by
  refine ⟨List.Pairwise.nil, fun j => ?_, fun x hx => (by cases hx)⟩
  constructor
  · rintro ⟨x, hx, -⟩
    cases hx
  · rintro ⟨⟨e, he, hp, hj⟩, h2⟩
    have := (sums_has h (j : Int)).2 ⟨e, he, hp, by omega⟩
    rw [this] at h2
    cases h2
theorem told_step {p : Ev → Bool} {left : Lit → Bool} {l : List Ev} {m : List It} {D : DataW Unit} (h : SumsM .u64 p (fun e => (e.2.1 : Int)) l D) (ht : ToldK p left l m) {x : Int} {c : Int} (hl : left (.int .u64 x) = true) (hat : ∀ zd, D.atKey (.int .u64 x) zd = .lit (.int .u64 c)) :
    ∃ a b : Nat, x = (a : Int) ∧ c = (b : Int) ∧ ToldK p (fun z => left z && !z.sameKey (.int .u64 x)) l (m ++ [(a, b)]) := by
  obtain ⟨e, he, hp, hx⟩ := (sums_has h x).1 (Maps.has_true_of_atKey hat)
  have hc := h.el x
  rw [hat] at hc
  injection hc with hc
  injection hc with _ hc
  have hcast := key_cast p l e.2.1
  subst hx
  rw [hcast] at hc
  refine ⟨e.2.1, _, rfl, hc, ?_, fun j => ?_, fun y hy => ?_⟩
  · rw [List.pairwise_append]
    refine ⟨ht.nodup, List.pairwise_singleton _ _, fun a ha b hb => ?_⟩
    rw [List.mem_singleton] at hb
    subst hb
    intro hab
    have := ((ht.keys e.2.1).1 ⟨a, ha, hab⟩).2
    rw [hl] at this
    cases this
  · have hs : (Lit.int .u64 (j : Int)).sameKey (.int .u64 (e.2.1 : Int)) = decide (j = e.2.1) := by
      by_cases hj : j = e.2.1
      · subst hj
        have h1 : (Lit.int .u64 (e.2.1 : Int)).sameKey (.int .u64 (e.2.1 : Int)) = true := WideAt.sameKey_self trivial
        rw [h1]
        simp
      · rw [Maps.sameKey_ne (lit_ne (by omega))]
        simp [hj]
    constructor
    · rintro ⟨y, hy, hj⟩
      rw [List.mem_append, List.mem_singleton] at hy
      rcases hy with hy | rfl
      · obtain ⟨h1, h2⟩ := (ht.keys j).1 ⟨y, hy, hj⟩
        exact ⟨h1, by rw [h2]; rfl⟩
      · refine ⟨⟨e, he, hp, hj⟩, ?_⟩
        rw [hs, ← hj]
        simp
    · rintro ⟨h1, h2⟩
      rw [hs] at h2
      by_cases hj : j = e.2.1
      · exact ⟨_, List.mem_append_right _ (List.mem_singleton.2 rfl), hj.symm⟩
      · simp [hj] at h2
        obtain ⟨y, hy, hyj⟩ := (ht.keys j).2 ⟨h1, h2⟩
        exact ⟨y, List.mem_append_left _ hy, hyj⟩
  · rw [List.mem_append, List.mem_singleton] at hy
    rcases hy with hy | rfl
    · exact ht.of y hy
    · rfl
theorem ofI_mem {x : It} : ∀ {m : List It}, Rise m → x ∈ m → ofI x.1 m = x.2
  | [], _, h => by cases h
  | y :: m, hr, h => by
    obtain ⟨h1, h2⟩ := List.pairwise_cons.1 hr
    rcases List.mem_cons.1 h with rfl | h
    · rw [ofI, if_pos rfl]
    · have := h1 x h
      rw [ofI, if_neg (by omega), ofI_mem h2 h]
theorem told_end {p : Ev → Bool} {left : Lit → Bool} {l : List Ev} {m ys : List It} (ht : ToldK p left l m) (hl : ∀ k, left k = false) (hp : ys.Perm m) (hs : ys.Pairwise fun x y => x.1 ≤ y.1) (hw : ∀ e ∈ l, e.2.2 < M64) : ys = keysI p l := by
  have hn : ys.Pairwise fun a b => a.1 ≠ b.1 := (hp.pairwise_iff fun h => Ne.symm h).2 ht.nodup
  have hr : Rise ys := (hs.and hn).imp fun ⟨h1, h2⟩ => Nat.lt_of_le_of_ne h1 h2
  obtain ⟨k1, k2, k3⟩ := keys_is p l hw
  have hk : ∀ j : Nat, (∃ x ∈ ys, x.1 = j) ↔ ∃ e ∈ l, p e = true ∧ e.2.1 = j := by
    intro j
    constructor
    · rintro ⟨x, hx, hj⟩
      exact ((ht.keys j).1 ⟨x, hp.mem_iff.1 hx, hj⟩).1
    · intro h
      obtain ⟨x, hx, hj⟩ := (ht.keys j).2 ⟨h, hl _⟩
      exact ⟨x, hp.mem_iff.2 hx, hj⟩
  refine rise_ext hr k1 (fun j => (hk j).trans (k2 j).symm) fun j => ?_
  rw [k3]
  by_cases hj : ∃ x ∈ ys, x.1 = j
  · obtain ⟨x, hx, rfl⟩ := hj
    rw [ofI_mem hr hx, ht.of x (hp.mem_iff.1 hx)]
  · have hno : ∀ e ∈ l, (p e && decide (e.2.1 = j)) = false := by
      intro e he
      by_cases hpe : p e = true
      · have : ¬ e.2.1 = j := fun h => hj ((hk j).2 ⟨e, he, hpe, h⟩)
        simp [this]
      · simp [hpe]
    rw [sumP_congr (q := fun _ => false) hno, sumP_false, of_none fun x hx h => hj ⟨x, hx, h⟩]
    rfl
end Go.Proofs.Sc
end
section
/- slices.SortFunc's family, as it lies in this program: the table of numbers, and a field a fact of the program's own or the kernel's comparison. -/
namespace Go.Proofs.Ythncmjimfkbofaa
open Go.Shelf
def sortItem_ren : Go.Shelf.Ren := ⟨fun | 6 => 47 | 15 => 69 | 14 => 68 | 28 => 90 | 29 => 91 | 20 => 82 | 21 => 83 | 22 => 84 | 23 => 85 | 24 => 86 | 25 => 87 | 26 => 88 | 27 => 89 | 46 => 96 | 47 => 97 | 48 => 98 | 49 => 99 | 50 => 100 | 57 => 103 | n => n, fun | 22 => 55 | 24 => 59 | 25 => 92 | 3 => 3 | 39 => 108 | 0 => 0 | 53 => 127 | 55 => 22 | 4 => 4 | 46 => 120 | 45 => 119 | 50 => 124 | 5 => 5 | 9 => 9 | 66 => 130 | 70 => 134 | 76 => 136 | 77 => 137 | n => n, fun | n => n⟩
theorem sortItem : Go.Proofs.SlLaysF0.n6 Try.prog sortItem_ren := {
  mixed := by kernel_rfl
  f6 := ⟨Try.f47.name, by decide, Try.func47.trans (congrArg some (by kernel_rfl))⟩
  f14 := ⟨Try.f68.name, by decide, Try.func68.trans (congrArg some (by kernel_rfl))⟩
  f15 := Try.func69.trans (congrArg some (by kernel_rfl))
  f20 := ⟨Try.f82.name, by decide, Try.func82.trans (congrArg some (by kernel_rfl))⟩
  f21 := ⟨Try.f83.name, by decide, Try.func83.trans (congrArg some (by kernel_rfl))⟩
  f22 := ⟨Try.f84.name, by decide, Try.func84.trans (congrArg some (by kernel_rfl))⟩
  f23 := ⟨Try.f85.name, by decide, Try.func85.trans (congrArg some (by kernel_rfl))⟩
  f24 := ⟨Try.f86.name, by decide, Try.func86.trans (congrArg some (by kernel_rfl))⟩
  f25 := ⟨Try.f87.name, by decide, Try.func87.trans (congrArg some (by kernel_rfl))⟩
  f26 := ⟨Try.f88.name, by decide, Try.func88.trans (congrArg some (by kernel_rfl))⟩
  f27 := ⟨Try.f89.name, by decide, Try.func89.trans (congrArg some (by kernel_rfl))⟩
  f28 := Try.func90.trans (congrArg some (by kernel_rfl))
  f29 := Try.func91.trans (congrArg some (by kernel_rfl))
  f46 := ⟨Try.f96.name, by decide, Try.func96.trans (congrArg some (by kernel_rfl))⟩
  f47 := Try.func97.trans (congrArg some (by kernel_rfl))
  f48 := Try.func98.trans (congrArg some (by kernel_rfl))
  f49 := ⟨Try.f99.name, by decide, Try.func99.trans (congrArg some (by kernel_rfl))⟩
  f50 := ⟨Try.f100.name, by decide, Try.func100.trans (congrArg some (by kernel_rfl))⟩
  f57 := ⟨Try.f103.name, by decide, Try.func103.trans (congrArg some (by kernel_rfl))⟩
  t0 := Try.underlying0
  a0 := Try.isAgg0
  z0 := Try.sizeOf0
  v0 := Try.zeroValue0
  t3 := Try.underlying3
  a3 := Try.isAgg3
  z3 := Try.sizeOf3
  v3 := Try.zeroValue3
  t4 := Try.underlying4
  a4 := Try.isAgg4
  z4 := Try.sizeOf4
  v4 := Try.zeroValue4
  t5 := Try.underlying5
  a5 := Try.isAgg5
  z5 := Try.sizeOf5
  v5 := Try.zeroValue5
  t9 := Try.underlying9
  a9 := Try.isAgg9
  z9 := Try.sizeOf9
  v9 := Try.zeroValue9
  t22 := Try.underlying55
  a22 := Try.isAgg55
  z22 := Try.sizeOf55
  v22 := Try.zeroValue55
  t25 := Try.underlying92
  a25 := Try.isAgg92
  z25 := Try.sizeOf92
  v25 := Try.zeroValue92
  t39 := Try.underlying108
  a39 := Try.isAgg108
  z39 := Try.sizeOf108
  v39 := Try.zeroValue108
  t45 := Try.underlying119
  a45 := Try.isAgg119
  z45 := Try.sizeOf119
  v45 := Try.zeroValue119
  t46 := Try.underlying120
  a46 := Try.isAgg120
  z46 := Try.sizeOf120
  v46 := Try.zeroValue120
  t50 := Try.underlying124
  a50 := Try.isAgg124
  z50 := Try.sizeOf124
  v50 := Try.zeroValue124
  t53 := Try.underlying127
  a53 := Try.isAgg127
  z53 := Try.sizeOf127
  v53 := Try.zeroValue127
  t55 := Try.underlying22
  a55 := Try.isAgg22
  z55 := Try.sizeOf22
  v55 := Try.zeroValue22
  t66 := Try.underlying130
  a66 := Try.isAgg130
  z66 := Try.sizeOf130
  v66 := Try.zeroValue130
  t70 := Try.underlying134
  a70 := Try.isAgg134
  z70 := Try.sizeOf134
  v70 := Try.zeroValue134
  t76 := Try.underlying136
  a76 := Try.isAgg136
  z76 := Try.sizeOf136
  v76 := Try.zeroValue136
  t77 := Try.underlying137
  a77 := Try.isAgg137
  z77 := Try.sizeOf137
  v77 := Try.zeroValue137 }
end Go.Proofs.Ythncmjimfkbofaa
end
section
/- slices.SortFunc, as scan calls it, on a row of the call's own: it holds a permutation of what it held, and rises by the ticks. -/
namespace Go.Proofs.Ythncmjimfkbofaa
open Go.RowKit Go.Shelf Go.Proofs.Rw Go.Proofs.Lh

/-! ### A row of the call's own, in the sort's words -/

theorem flat_cellsI {α : Type} [Inhabited α] (L : Lay α) (d : Array α) : (Sort.flatK L.enc L.size d).toList = L.cells d.toList := by
  apply List.ext_getElem?
  intro t
  by_cases ht : t < d.size * L.size
  · have h0 : 0 < L.size := by
      rcases Nat.eq_zero_or_pos L.size with h | h
      · rw [h] at ht; simp at ht
      · exact h
    have hq : t / L.size < d.size := Nat.div_lt_of_lt_mul (by rw [Nat.mul_comm]; exact ht)
    have hr : t % L.size < L.size := Nat.mod_lt _ h0
    have e := cells_at L d.toList (t / L.size) (t % L.size) (by simpa using hq) hr
    have e2 : t / L.size * L.size + t % L.size = t := Nat.div_add_mod' t L.size
    rw [e2] at e
    rw [e]
    have hk : t % L.size < (L.enc (d.toList[t / L.size]'(by simpa using hq))).length := by rw [L.len]; exact hr
    rw [List.getElem?_eq_getElem hk]
    have hs : t < (Sort.flatK L.enc L.size d).toList.length := by simpa using ht
    rw [List.getElem?_eq_getElem hs]
    congr 1
    have g := Sort.get_flatK L.enc L.size d t ht
    rw [getElem!_pos (Sort.flatK L.enc L.size d) t (by simpa using ht)] at g
    rw [Array.getElem_toList, g, getElem!_pos d (t / L.size) hq]
    have hk' : t % L.size < (L.enc d[t / L.size]).length := by rw [L.len]; exact hr
    rw [getElem!_pos (L.enc d[t / L.size]) (t % L.size) hk']
    simp
  · rw [List.getElem?_eq_none (by simp; omega), List.getElem?_eq_none (by rw [cells_len]; simp; omega)]

theorem holds_ownI {α : Type} [Inhabited α] {L : Lay α} {w : World} {base g cap : Nat} {T : TypeId} {xs : List α} (h : w.ownsRow base T L.size (.slice (some ⟨g, 0, none⟩) xs.length cap) xs.length (L.cells xs)) : Sort.HoldsK L.enc L.size w g 0 xs.toArray := by
  intro j hj
  have hj' : j < xs.length * L.size := by simpa using hj
  rw [Nat.zero_add]
  refine ⟨?_, h.frozenAt j⟩
  rw [h.cellAt j hj', ← List.getElem?_toArray]
  have e := flat_cellsI L xs.toArray
  rw [List.toList_toArray] at e
  rw [← e, Array.toArray_toList, getElem!_pos _ j hj]
  simp

theorem heap_putI {w : World} {g n : Nat} {os : Array Obj} {cur : Array Value} {T : TypeId} {fr : Nat × Nat} (F : Array Value) (hb : w.heap[g]? = some (.cells cur T fr)) :
    (Sort.grow (Sort.putRow id (Sort.ahead w n) g 0 F) os).heap[g]? = some (.cells (Sort.putCells id 0 F cur) T fr) := by
  have hg : g < w.heap.size := (Array.getElem?_eq_some_iff.1 hb).1
  rw [Sort.heap_grow_old _ _ (by simpa using hg)]
  simp [Sort.putRow, Sort.mapBlock, Sort.ahead, Array.getElem?_modify, hb, Sort.onCells]
theorem grown_putI {w : World} {g n : Nat} {os : Array Obj} (F : Array Value) : w.grownBy (Sort.grow (Sort.putRow id (Sort.ahead w n) g 0 F) os) (some g) := by
  refine ⟨rfl, rfl, rfl, by simp, fun k hk hne => ?_⟩
  rw [Sort.heap_grow_old _ _ (by simpa using hk)]
  have : g ≠ k := fun e => hne (by rw [e])
  simp [Sort.putRow, Sort.mapBlock, Sort.ahead, Array.getElem?_modify, this]
theorem take_putI (cur F : Array Value) (h : F.size ≤ cur.size) : (Sort.putCells id 0 F cur).toList.take F.size = F.toList := by
  apply List.ext_getElem?
  intro j
  by_cases hj : j < F.size
  · rw [List.getElem?_take_of_lt hj, Array.getElem?_toList, Array.getElem?_toList]
    simp [Sort.putCells, hj, show j < cur.size by omega]
  · rw [List.getElem?_take_eq_none (by omega), List.getElem?_eq_none (by simp; omega)]
/-- Behind the sort the same slice owns the sorted list. -/
theorem own_sortedI {α : Type} [Inhabited α] {L : Lay α} {w : World} {base g cap n : Nat} {T : TypeId} {os : Array Obj} {cur : Array Value} {xs : List α} {d : Array α} (hl : d.size = xs.length) (hbase : base ≤ g) (hb : w.heap[g]? = some (.cells cur T (0, 0)))
    (h1 : xs.length ≤ cap) (h2 : cap ≤ maxLen) (h3 : cur.size = cap * L.size) :
    (sortWorldK L.enc L.size w g 0 n d os).ownsRow base T L.size (.slice (some ⟨g, 0, none⟩) xs.length cap) xs.length (L.cells d.toList) := by
  have hF : (Sort.flatK L.enc L.size d).size = xs.length * L.size := by simp [hl]
  have hle : (Sort.flatK L.enc L.size d).size ≤ cur.size := by rw [hF, h3]; exact Nat.mul_le_mul_right _ h1
  have ht := take_putI cur (Sort.flatK L.enc L.size d) hle
  rw [flat_cellsI, hF] at ht
  refine ⟨by rw [cells_len]; simp [hl], .inr ⟨g, cap, _, rfl, hbase, heap_putI _ hb, h1, h2, by simp [Sort.putCells, h3], ht⟩⟩

/-! ### What is compared -/

def cmpNI (x y : Sp) : Int := if x.1 < y.1 then -1 else if y.1 < x.1 then 1 else 0
theorem cmp_ltI (x y : Sp) : ltOf cmpNI x y = decide (x.1 < y.1) := by
  unfold ltOf cmpNI
  by_cases h1 : x.1 < y.1
  · simp [h1]
  · by_cases h2 : y.1 < x.1 <;> simp [h1, h2]
theorem cmp_swoI : Sort.SWO (ltOf cmpNI) where
  irrefl x := by rw [cmp_ltI]; simp
  trans x y z h1 h2 := by rw [cmp_ltI] at *; simp at *; omega
  ntrans x y z h1 h2 := by rw [cmp_ltI] at *; simp at *; omega

theorem compare_anyI (x y : Sp) (w : World) : Calls Try.prog 34 #[.int .u64 (x.1 : Int), .int .u64 (y.1 : Int)] w fun e w' => e = .returned (.int .i64 (cmpNI x y)) ∧ w' = w := by
  unfold cmpNI
  obtain ⟨a, ha⟩ : ∃ a, x.1 = a := ⟨_, rfl⟩
  obtain ⟨b, hb⟩ : ∃ a, y.1 = a := ⟨_, rfl⟩
  rw [ha, hb]
  clear ha hb
  by_cases h1 : a < b
  · rw [if_pos h1]
    go_enter Try.func34, Try.ntmps34
    go_wp2
    go_ret
    exact ⟨rfl, rfl⟩
  · rw [if_neg h1]
    by_cases h2 : b < a
    · rw [if_pos h2]
      go_enter Try.func34, Try.ntmps34
      go_wp2
      go_ret
      exact ⟨rfl, rfl⟩
    · rw [if_neg h2]
      go_enter Try.func34, Try.ntmps34
      go_wp2
      go_ret
      exact ⟨rfl, rfl⟩

set_option maxHeartbeats 1000000 in
theorem closure_anyI (x y : Sp) (W : World) : Calls Try.prog 48 #[.agg #[.int .u64 (x.1 : Int), .int .u64 (x.2 : Int)], .agg #[.int .u64 (y.1 : Int), .int .u64 (y.2 : Int)]] W fun e w' => e = .returned (.int .i64 (cmpNI x y)) ∧ ∃ q os', w' = Sort.grow (W.drewN q) os' := by
  have hcon := fun W' => compare_anyI x y W'
  generalize cmpNI x y = r at hcon ⊢
  have HC := Lib.hid hcon
  clear hcon
  go_enter Try.func48, Try.ntmps48
  go_wp2_with (go_at_call 34; refine (HC.out _).mono ?_; rintro e w' ⟨rfl, rfl⟩)
  go_ret
  exact ⟨rfl, 0, _, by rw [Sort.alloc_eq_grow, Sort.alloc_eq_grow, Sort.grow_grow]; rfl⟩

/-! ### The contract -/

theorem sort_someI (xs : List Sp) (hl : xs.length ≤ 10000000) (base : Nat) (w : World) (g cap : Nat) (h : OwnT 59 w base (.slice (some ⟨g, 0, none⟩) xs.length cap) xs) :
    Calls Try.prog 47 #[.slice (some ⟨g, 0, none⟩) xs.length cap, .func (.func 48) #[] #[]] w fun e w' => e = .returned (.tuple #[]) ∧
      ∃ ys : List Sp, ys.Perm xs ∧ (ys.Pairwise fun x y => x.1 ≤ y.1) ∧ ys.length = xs.length ∧ OwnT 59 w' base (.slice (some ⟨g, 0, none⟩) xs.length cap) ys ∧ w.grownBy w' (some g) := by
  have eg : ∀ args w, (callFunc 48 args).run Try.prog w = .ok (.enter 48 args) w := enters_of Try.func48 (by kernel_rfl) rfl
  have hH : Sort.HoldsK spL.enc spL.size w g 0 xs.toArray := holds_ownI h
  have hblk : g < w.heap.size := (h.lt g rfl).2
  have hcon := AnyQ.slices_SortFunc sortItem 2 Try.isAgg59 Try.sizeOf59 spL.enc spL.len (fun x v hv => sp_one [x] x List.mem_cons_self v hv) cmpNI cmp_swoI 48 #[] g 0 cap xs.toArray w eg (fun _ _ _ _ x y => closure_anyI x y _) hH hblk (by simp; omega)
  rw [List.size_toArray] at hcon
  refine Calls.mono hcon ?_
  rintro e w' ⟨rfl, d', n, os, ⟨hp1, _, hp3⟩, hs, rfl⟩
  refine ⟨rfl, d'.toList, ?_, ?_, by simpa using hp1, ?_, ?_⟩
  · have e1 : d'.extract 0 xs.toArray.size = d' := by rw [← hp1]; simp
    have e2 : xs.toArray.extract 0 xs.toArray.size = xs.toArray := by simp
    rw [List.size_toArray] at e1 e2
    rw [e1, e2] at hp3
    simpa using hp3
  · rw [List.pairwise_iff_getElem]
    intro i j hi hj hij
    have hj' : j < d'.size := by simpa using hj
    have hi' : i < d'.size := by simpa using hi
    have hjx : j < xs.length := by have := hp1; simp at this; omega
    have := hs i j (Nat.zero_le _) hij (by simpa using hjx)
    rw [cmp_ltI, getElem!_pos d' j hj', getElem!_pos d' i hi'] at this
    simp at this
    simpa using this
  · rcases h.2 with ⟨e, _⟩ | ⟨g', cap', cur, e, hbase, hb, h1, h2, h3, h4⟩
    · cases e
    · injection e with e1 e2 e3
      injection e1 with e1
      injection e1 with e1
      subst e1
      subst e3
      have := own_sortedI (L := spL) (d := d') (n := n) (os := os) (xs := xs) (by simpa using hp1) hbase hb h1 h2 h3
      unfold OwnT
      rw [show d'.toList.length = xs.length by simpa using hp1]
      exact this
  · exact grown_putI _

set_option maxHeartbeats 2000000 in
theorem insertion_noneI (p : Option Addr) (cap : Nat) (fv : Value) (w : World) :
    Calls Try.prog 82 #[.slice p 0 cap, .int .i64 0, .int .i64 0, fv] w fun e w' => e = .returned (.tuple #[]) ∧ w' = w := by
  go_enter Try.func82, Try.ntmps82
  go_wp2
  refine wp_loop_rounds 1 ?_
  rw [rounds_succ]
  go_wp2
  go_end0
  exact ⟨rfl, rfl⟩
set_option maxHeartbeats 2000000 in
theorem pdq_noneI (p : Option Addr) (cap : Nat) (lim : Int) (fv : Value) (w : World) :
    Calls Try.prog 68 #[.slice p 0 cap, .int .i64 0, .int .i64 0, .int .i64 lim, fv] w fun e w' => e = .returned (.tuple #[]) ∧ w' = w := by
  have hi := fun W => insertion_noneI p cap fv W
  go_enter Try.func68, Try.ntmps68
  go_wp2
  refine wp_loop_rounds 1 ?_
  rw [rounds_succ]
  go_wp2_with (go_at_call 82; refine (hi _).mono ?_; rintro e w' ⟨rfl, rfl⟩)
  (try simp only [Exit.inBlock, Exit.then]); refine bodyPost_ret (results_none rfl _ _ _) rfl ?_
  exact ⟨rfl, rfl⟩
set_option maxHeartbeats 2000000 in
theorem sort_noneI (p : Option Addr) (cap : Nat) (fv : Value) (w : World) :
    Calls Try.prog 47 #[.slice p 0 cap, fv] w fun e w' => e = .returned (.tuple #[]) ∧ w' = w := by
  have hp := fun lim W => pdq_noneI p cap lim fv W
  have hl : ∀ W, Calls Try.prog 69 #[.int .u64 0] W fun e w' => e = .returned (.int .i64 (Lib.bitLen 0 : Nat)) ∧ w' = W := fun W => by
    have h := Any.bits_Len (SlLaysF0.n15.bits (P := Try.prog) (ρ := sortItem_ren) { sortItem with }) 0 W (by omega) (by omega)
    exact h
  go_enter Try.func47, Try.ntmps47
  go_wp2_with (first | (go_at_call 69; refine (hl _).mono ?_; rintro e w' ⟨rfl, rfl⟩) | (go_at_call 68; refine (hp _ _).mono ?_; rintro e w' ⟨rfl, rfl⟩))
  go_end0
  exact ⟨rfl, rfl⟩

theorem sort_anyI (xs : List Sp) (hl : xs.length ≤ 10000000) (base : Nat) (w : World) (A : Option Addr) (c : Nat) (h : OwnT 59 w base (.slice A xs.length c) xs) :
    Calls Try.prog 47 #[.slice A xs.length c, .func (.func 48) #[] #[]] w fun e w' => e = .returned (.tuple #[]) ∧
      ∃ ys : List Sp, ys.Perm xs ∧ (ys.Pairwise fun x y => x.1 ≤ y.1) ∧ ys.length = xs.length ∧ OwnT 59 w' base (.slice A xs.length c) ys ∧ w.grownBy w' (Value.slice A xs.length c).ownBlock := by
  rcases h.2 with ⟨e, h0⟩ | ⟨g, cap, cur, e, _⟩
  · injection e with e1 e2 e3
    have hx : xs = [] := List.eq_nil_of_length_eq_zero h0
    subst hx e1 e3
    refine (sort_noneI none 0 _ w).mono ?_
    rintro e w' ⟨rfl, rfl⟩
    exact ⟨rfl, [], List.Perm.refl _, List.Pairwise.nil, rfl, h, World.grownBy.refl _ _⟩
  · injection e with e1 e2 e3
    subst e1 e3
    exact sort_someI xs hl base w g _ h

end Go.Proofs.Ythncmjimfkbofaa
end
section
/- The contract of scan.Keys. -/
namespace Go.Proofs.Ythncmjimfkbofaa
set_option linter.unusedVariables false
open Go.RowKit Go.Shelf Go.Proofs.Rw Go.Proofs.Lh Go.Proofs.Bu Go.Proofs.Sc Go.Proofs.Wm Go.Proofs.Rf Go.Maps

theorem info_item : (Try.prog.info? 59).map (fun i => (i.zero, i.size, i.bytes)) = some (some (.agg #[.int .u64 0, .int .u64 0]), 2, 16) := by kernel_rfl
theorem lit_item (W : World) (n : Nat) (hn : W.heap.size = n) (a b : Nat) : Lies spL (W.alloc (.cells #[.int .u64 a, .int .u64 b] 59)) (n + 1) (.slice (some ⟨n, 0, none⟩) 1 1) [(a, b)] := by
  subst hn
  refine ⟨_, 1, rfl, by simp, by unfold maxLen; omega, .inr ⟨W.heap.size, 0, by omega, rfl, fun j u hu => ?_⟩⟩
  rw [World.cell?_alloc_at _ _ _ _ rfl]
  simp only [Lay.cells, spL, List.flatMap_cons, List.flatMap_nil, List.append_nil] at hu
  simpa using hu
/-- What holds at each round of the range. -/
def KeyR (p : Ev → Bool) (l : List Ev) (N B r base : Nat) (D : DataW Unit) (w : World) (s : Value) (wr : World) : Prop :=
  ∃ left cnt m, wr.ranges Try.prog 22 (plainElem Try.prog 22) B r N D left cnt ∧ m.length + cnt ≤ N ∧ OwnT 59 wr base s m ∧ ToldK p left l m ∧ Below w.heap.size w wr ∧ base ≤ wr.heap.size

set_option maxRecDepth 100000 in
set_option maxHeartbeats 4000000 in
theorem scKeys_any (l : List Ev) (hl : l.length ≤ 1000000) (hv : U64s l) (f t : Nat) (w : World) (A : Option Addr) (c : Nat) (h : Lies evL w w.heap.size (.slice A l.length c) l) :
    Calls Try.prog 24 #[.slice A l.length c, .int .u64 (f : Int), .int .u64 (t : Int)] w fun e w' => ∃ A' c', e = .returned (.slice A' (keysI (ofT f t) l).length c') ∧ Lies spL w' w'.heap.size (.slice A' (keysI (ofT f t) l).length c') (keysI (ofT f t) l) ∧ Below w.heap.size w w' := by
  obtain ⟨W0, hW0, hsz, p0, p1, b0⟩ := heap_two w (.cells #[.int .u64 (f : Int)] 22) (.cells #[.int .u64 (t : Int)] 22)
  have x0 : W0.cell? ⟨w.heap.size, 0, none⟩ = some (.int .u64 (f : Int)) := by simp [World.cell?, p0]
  have x1 : W0.cell? ⟨w.heap.size + 1, 0, none⟩ = some (.int .u64 (t : Int)) := by simp [World.cell?, p1]
  have hw2 := weB_any l hl hv W0 A c ((h.below b0).mono b0.size) f t w.heap.size (w.heap.size + 1) x0 x1
  obtain ⟨N, hN⟩ : ∃ N, l.length = N := ⟨_, rfl⟩
  rw [hN] at hw2 hl ⊢
  obtain ⟨p, hp⟩ : ∃ p, ofT f t = p := ⟨_, rfl⟩
  rw [hp] at hw2 ⊢
  have H2 := Lib.hid hw2
  have HW0 := Lib.hid hW0
  have B0 := Lib.hid b0
  have hvw : ∀ e ∈ l, e.2.2 < M64 := fun e he => (hv e he).2.2
  have HV := Lib.hid hvw
  clear hw2 h hN hv hp p0 p1 b0 x0 x1 hW0 hsz hvw
  go_enter Try.func24, Try.ntmps24
  go_upto_region 1 with (fail)
  rw [← HW0.out]
  go_upto_region 4 with (first
    | (go_at_call 39; (with_reducible refine H2.out.mono ?_); rintro e w2 ⟨D, rfl, ho, hs, hb⟩; have HO := Lib.hid ho; have HS := Lib.hid hs; have HB2 := Lib.hid (thn B0.out hb); have HB20 := Lib.hid hb; clear ho hs hb)
    | (at_range; refine wpList_range_own _ rfl _ 82 rfl 22 22 (int_keyed Try.underlying22) Try.underlying82 _ W0.heap.size N D rfl HO.out ?_; intro w3 hrg hg hsz3; have HR := Lib.hid hrg; have HG := Lib.hid hg; clear hrg hg)
    | go_in)
  go_frame
  obtain ⟨r, hr⟩ : ∃ r, w2.heap.size = r := ⟨_, rfl⟩
  obtain ⟨B, hB⟩ : ∃ B, W0.heap.size = B := ⟨_, rfl⟩
  rw [hr] at HR hsz3 ⊢
  rw [hB] at HR HO ⊢
  have hwr : w.heap.size ≤ r := by have := HB2.out.size; omega
  have hBr : B ≤ r := by have := HB20.out.size; omega
  have HB3 := Lib.hid (HB2.out.grown HG.out HB2.out.size (fun q hq => by cases hq))
  obtain ⟨base, hbase⟩ : ∃ base, r + 1 = base := ⟨_, rfl⟩
  rw [hbase] at hsz3
  clear HG
  go_loopw [8] (fun s8 wr => KeyR p l N B r base D w s8 wr) (fun _ wr => wr.rangeLeft B r)
  case atStart => exact ⟨_, _, [], HR.out, by have := HO.out.size_le; simpa using this, World.ownsRow_nil _ _ _ _, told_start HS.out, HB3.out, by omega⟩
  case round =>
    obtain ⟨left, cnt, m, hrr, hmc, hown, htold, hbw, hbs⟩ := hrel
    have HRR := Lib.hid hrr
    have HOW := Lib.hid hown
    have HT := Lib.hid htold
    have HB := Lib.hid hbw
    clear hrr hown htold hbw
    go_wp2_with (first
      | (at_next; refine wpList_next_ranges_ii _ rfl _ rfl 22 22 .u64 .u64 (int_keyed Try.underlying22) Try.underlying22 Try.underlying22 B r N _ _ _ rfl HRR.out ?_ ?_)
      | go_in)
    · intro hc0 hl0
      obtain ⟨A1, c1, rfl, -, -⟩ := own_form HOW.out
      have hsort := sort_anyI m (by omega) base wr A1 c1 HOW.out
      have HST := Lib.hid hsort
      have HL0 := Lib.hid hl0
      clear hsort hl0
      go_wp2_with (go_at_call 47; (with_reducible refine HST.out.mono ?_); rintro e w5 ⟨rfl, ys, hp1, hp2, hp3, hp4, hp5⟩; have HP1 := Lib.hid hp1; have HP2 := Lib.hid hp2; have HP3 := Lib.hid hp3; have HP4 := Lib.hid hp4; have HP5 := Lib.hid hp5; clear hp1 hp2 hp3 hp4 hp5)
      go_ret
      have e := told_end HT.out HL0.out HP1.out HP2.out HV.out
      rw [← e, HP3.out]
      have hL := Lies.of_own HP4.out
      exact ⟨A1, c1, rfl, hL, HB.out.grown HP5.out HB.out.size (fun q hq => by have := (HOW.out.lt q hq).1; omega)⟩
    · intro x cv w4 cnt4 hwx hwc hlx hat hrg4 hlt hg4 hs4 hen
      obtain ⟨a, b, rfl, rfl, ht4⟩ := told_step HS.out HT.out hlx hat
      have HRG4 := Lib.hid hrg4
      have hrb : r < base := by omega
      have HB4 := Lib.hid (HB.out.grown hg4 HB.out.size (fun q hq => by cases hq; exact hwr))
      have hne : u8.ownBlock = none ∨ u8.ownBlock ≠ some r := by
        cases hv8 : u8.ownBlock with
        | none => exact .inl rfl
        | some q => exact .inr (by have := (HOW.out.lt q hv8).1; simp; omega)
      have HO4 := Lib.hid (World.ownsRow.kept HOW.out hg4 hne)
      have HT4 := Lib.hid ht4
      have hs4' : base ≤ w4.heap.size := by omega
      clear hrg4 hg4 ht4 hat hwx hwc hlx HT hs4
      go_wp2_with (at_builtin; refine wpList_app 59 _ 16 info_item Try.underlying55 rfl (by decide) (by decide) _ rfl _ _ rfl base _ _ m [(a, b)] _ rfl (World.ownsRow.alloc HO4.out _) rfl (lit_item _ _ rfl a b) (sp_one _) (by simp; omega) (by simp; omega) ?_; intro v' w6 ho6 hg6; have HO6 := Lib.hid ho6; have HG6 := Lib.hid hg6; clear ho6 hg6)
      have hgall := (World.grownBy_alloc w4 (.cells #[.int .u64 (a : Int), .int .u64 (b : Int)] 59) u8.ownBlock).trans HG6.out
      have hlow : ∀ q, q ≤ r → some q ≠ u8.ownBlock := fun q hq e => by have := (HOW.out.lt q e.symm).1; omega
      have hr6 := HRG4.out.kept hgall (hlow B hBr) (hlow r (Nat.le_refl _))
      have hKR : KeyR p l N B r base D w v' w6 := ⟨_, cnt4, m ++ [(a, b)], hr6, by simp; omega, HO6.out, HT4.out, HB4.out.grown hgall HB4.out.size (fun q hq => by have := (HOW.out.lt q hq).1; omega), Nat.le_trans hs4' hgall.size⟩
      go_roundw
      case rel => exact hKR
      case measure =>
        rw [hr6.left_eq, HRR.out.left_eq]
        exact hlt
end Go.Proofs.Ythncmjimfkbofaa
end
