/- Elements that lie one behind the other in memory, each of so many cells: a slice that holds a list, a row of the call's own, append. · Append onto a row of the call's own: where the new row lies; what other rows keep. · Slices of slices: levels of buckets in memory, and a row of the call's own to which levels are appended. · Levels that are read alone: slices of slices in memory, of whatever blocks; and how they come in as an argument. -/
import Derived.Laws.OwnMore
import Derived.Below
import Derived.OpenShut
import Derived.OwnWalk
import Derived.Lib.Hide
import Derived.Test.YthncmjimfkbofaaJ02
import Derived.OwnWalkIn
section
/- Elements that lie one behind the other in memory, each of so many cells: a slice that holds a list, a row of the call's own, append. -/
namespace Go.Proofs.Rw
open Go Go.RowKit

/-- How an element lies in memory. -/
structure Lay (α : Type) where
  size : Nat
  enc : α → List Value
  len : ∀ a, (enc a).length = size

section
variable {α : Type} (L : Lay α)

def Lay.cells (xs : List α) : List Value := xs.flatMap L.enc
theorem cells_nil : L.cells [] = [] := rfl
theorem cells_cons (x : α) (xs : List α) : L.cells (x :: xs) = L.enc x ++ L.cells xs := rfl
theorem cells_app (xs ys : List α) : L.cells (xs ++ ys) = L.cells xs ++ L.cells ys := by simp [Lay.cells]
theorem cells_one (x : α) : L.cells [x] = L.enc x := by simp [Lay.cells]
theorem cells_len (xs : List α) : (L.cells xs).length = xs.length * L.size := by
  induction xs with
  | nil => simp [Lay.cells]
  | cons x xs ih => rw [cells_cons, List.length_append, L.len, ih, List.length_cons, Nat.add_mul]; omega
theorem cells_at (xs : List α) (i j : Nat) (hi : i < xs.length) (hj : j < L.size) : (L.cells xs)[i * L.size + j]? = (L.enc xs[i])[j]? := by
  induction xs generalizing i with
  | nil => simp at hi
  | cons x xs ih =>
    rw [cells_cons]
    cases i with
    | zero => rw [Nat.zero_mul, Nat.zero_add, List.getElem?_append_left (by rw [L.len]; exact hj)]; rfl
    | succ i =>
      rw [List.getElem?_append_right (by rw [L.len, Nat.add_mul]; omega), L.len, show (i + 1) * L.size + j - L.size = i * L.size + j by rw [Nat.add_mul]; omega]
      exact ih i (by simpa using hi)
theorem cells_take (xs : List α) (k : Nat) : (L.cells xs).take (k * L.size) = L.cells (xs.take k) := by
  rcases Nat.lt_or_ge xs.length k with h | h
  · rw [List.take_of_length_le (by rw [cells_len]; exact Nat.mul_le_mul_right _ (by omega)), List.take_of_length_le (by omega)]
  · have e := cells_app L (xs.take k) (xs.drop k)
    rw [List.take_append_drop] at e
    have hl : (L.cells (xs.take k)).length = k * L.size := by rw [cells_len, List.length_take, Nat.min_eq_left h]
    rw [e, ← hl, List.take_left]
theorem cells_drop (xs : List α) (k : Nat) : (L.cells xs).drop (k * L.size) = L.cells (xs.drop k) := by
  rcases Nat.lt_or_ge xs.length k with h | h
  · rw [List.drop_of_length_le (by rw [cells_len]; exact Nat.mul_le_mul_right _ (by omega)), List.drop_of_length_le (by omega)]; rfl
  · have e := cells_app L (xs.take k) (xs.drop k)
    rw [List.take_append_drop] at e
    have hl : (L.cells (xs.take k)).length = k * L.size := by rw [cells_len, List.length_take, Nat.min_eq_left h]
    rw [e, ← hl, List.drop_left]

/-- The slice value v holds just the elements xs, and lies below block B. -/
def Lies (w : World) (B : Nat) (v : Value) (xs : List α) : Prop :=
  ∃ A cap, v = .slice A xs.length cap ∧ xs.length ≤ cap ∧ cap ≤ maxLen ∧ (xs = [] ∨ ∃ b off, b < B ∧ A = some ⟨b, off, none⟩ ∧ ∀ j u, (L.cells xs)[j]? = some u → w.cell? ⟨b, off + j, none⟩ = some u)

variable {L} {w w' : World} {B B' : Nat} {v : Value} {xs ys : List α}

theorem Lies.keep (h : Lies L w B v xs) (hk : ∀ b, b < B → w'.heap[b]? = w.heap[b]?) : Lies L w' B v xs := by
  obtain ⟨A, cap, hv, h1, h2, h3⟩ := h
  refine ⟨A, cap, hv, h1, h2, ?_⟩
  rcases h3 with h3 | ⟨b, off, hb, hA, hc⟩
  · exact .inl h3
  · exact .inr ⟨b, off, hb, hA, fun j u hu => (World.cell?_of_block (a := ⟨b, off + j, none⟩) (hk b hb)).trans (hc j u hu)⟩
theorem Lies.below (h : Lies L w B v xs) (hb : Below B w w') : Lies L w' B v xs := h.keep hb.block
theorem Lies.mono (h : Lies L w B v xs) (hB : B ≤ B') : Lies L w B' v xs := by
  obtain ⟨A, cap, hv, h1, h2, h3⟩ := h
  refine ⟨A, cap, hv, h1, h2, h3.imp id ?_⟩
  rintro ⟨b, off, hb, r⟩
  exact ⟨b, off, by omega, r⟩
theorem Lies.grow (h : Lies L w w.heap.size v xs) (hb : Below w.heap.size w w') : Lies L w' w'.heap.size v xs := (h.below hb).mono hb.size
theorem Lies.alloc (h : Lies L w B v xs) (hB : B ≤ w.heap.size) (o : Obj) : Lies L (w.alloc o) B v xs := h.keep fun b hb => Below.heap_alloc w o b (by omega)
theorem Lies.nil (A : Option Addr) (cap : Nat) (h : cap ≤ maxLen) : Lies L w B (.slice A 0 cap) [] := ⟨A, cap, rfl, by simp, h, .inl rfl⟩
theorem Lies.form (h : Lies L w B v xs) : ∃ A cap, v = .slice A xs.length cap ∧ xs.length ≤ cap ∧ cap ≤ maxLen ∧ Lies L w B (.slice A xs.length cap) xs := by
  obtain ⟨A, cap, hv, h1, h2, h3⟩ := h
  exact ⟨A, cap, hv, h1, h2, A, cap, rfl, h1, h2, h3⟩
theorem Lies.addr {A : Option Addr} {len cap : Nat} (h : Lies L w B (.slice A len cap) xs) (h0 : 0 < xs.length) : ∃ b off, A = some ⟨b, off, none⟩ ∧ b < B ∧ len = xs.length ∧ ∀ i (hi : i < xs.length) j u, (L.enc xs[i])[j]? = some u → w.cell? ⟨b, off + (i * L.size + j), none⟩ = some u := by
  obtain ⟨A', cap', hv, h1, h2, h3⟩ := h
  injection hv with e1 e2 e3
  subst e1
  rcases h3 with rfl | ⟨b, off, hb, hA, hc⟩
  · simp at h0
  · refine ⟨b, off, hA, hb, e2, fun i hi j u hu => hc _ _ ?_⟩
    rw [cells_at L xs i j hi ?_]
    · exact hu
    · rw [← L.len xs[i]]; exact (List.getElem?_eq_some_iff.1 hu).1

theorem Lies.of_own {base : Nat} {e : TypeId} (h : w.ownsRow base e L.size v xs.length (L.cells xs)) : Lies L w w.heap.size v xs := by
  rcases h.2 with ⟨rfl, h0⟩ | ⟨g, cap, cur, rfl, hb, hg, h1, h2, h3, h4⟩
  · have : xs = [] := List.eq_nil_of_length_eq_zero h0
    subst this
    exact ⟨none, 0, rfl, by simp, by simp, .inl rfl⟩
  · refine ⟨_, cap, rfl, h1, h2, .inr ⟨g, 0, (Array.getElem?_eq_some_iff.1 hg).1, rfl, fun j u hu => ?_⟩⟩
    have hj : j < xs.length * L.size := by rw [← cells_len]; exact (List.getElem?_eq_some_iff.1 hu).1
    rw [Nat.zero_add, h.cellAt j hj]
    exact hu

theorem Lies.take {A : Option Addr} {cap : Nat} (h : Lies L w B (.slice A xs.length cap) xs) (k c : Nat) (hk : k ≤ xs.length) (hc : k ≤ c) (hm : c ≤ maxLen) : Lies L w B (.slice A k c) (xs.take k) := by
  obtain ⟨A', cap', hv, h1, h2, h3⟩ := h
  injection hv with e1 e2 e3
  subst e1; subst e3
  have hl : (xs.take k).length = k := by simp; omega
  refine ⟨A, c, by rw [hl], by omega, hm, ?_⟩
  rcases h3 with rfl | ⟨b, off, hb, hA, hcc⟩
  · exact .inl (by simp)
  · refine .inr ⟨b, off, hb, hA, fun j u hu => hcc j u ?_⟩
    rw [← cells_take, List.getElem?_take] at hu
    split at hu
    · exact hu
    · cases hu
theorem Lies.drop {A : Option Addr} {cap : Nat} (h : Lies L w B (.slice A xs.length cap) xs) (k : Nat) (hk : k ≤ xs.length) (A' : Option Addr) (hA' : ∀ b off, A = some ⟨b, off, none⟩ → k < cap → A' = some ⟨b, off + k * L.size, none⟩) : Lies L w B (.slice A' (xs.length - k) (cap - k)) (xs.drop k) := by
  obtain ⟨A0, cap', hv, h1, h2, h3⟩ := h
  injection hv with e1 e2 e3
  subst e1; subst e3
  have hl : (xs.drop k).length = xs.length - k := by simp
  refine ⟨A', cap - k, by rw [hl], by omega, by omega, ?_⟩
  rcases Nat.eq_or_lt_of_le hk with e | hlt
  · exact .inl (List.drop_of_length_le (by omega))
  rcases h3 with rfl | ⟨b, off, hb, hA, hcc⟩
  · exact .inl (by simp)
  · refine .inr ⟨b, off + k * L.size, hb, hA' b off hA (by omega), fun j u hu => ?_⟩
    rw [← cells_drop, List.getElem?_drop] at hu
    rw [Nat.add_assoc]
    exact hcc _ u hu

/-- Elements appended to a row of the call's own. -/
theorem run_app {P : Program} (t ty e : TypeId) (z : Value) (bytes : Nat) (hinfo : (P.info? e).map (fun i => (i.zero, i.size, i.bytes)) = some (some z, L.size, bytes)) (ht : P.underlying t = some (.slice e)) (hz : z.cells.size = L.size) (hsz : 0 < L.size) (hby : bytes ≤ 1000)
    (w : World) {base : Nat} {v u : Value} {xs ys : List α} {B : Nat} (hown : w.ownsRow base e L.size v xs.length (L.cells xs)) (hu : Lies L w B u ys) (h1 : ∀ y ∈ ys, ∀ u ∈ L.enc y, u.oneCell' = true) (hb : xs.length + ys.length ≤ 10000000) (hbase : base ≤ w.heap.size) :
    ∃ v' w', (Builtin.append_ #[t, t] ty #[v, u]).run P w = .ok v' w' ∧ w'.ownsRow base e L.size v' (xs ++ ys).length (L.cells (xs ++ ys)) ∧ w.grownBy w' v.ownBlock := by
  obtain ⟨i0, hi, hz0, hz1, hz2⟩ := info_parts hinfo
  obtain ⟨A, cap, rfl, h2, h3, h4⟩ := hu
  cases A with
  | none =>
    have hy : ys = [] := by
      rcases h4 with h4 | ⟨b, off, _, hA, _⟩
      · exact h4
      · cases hA
    subst hy
    refine ⟨v, w, ?_, by simpa using hown, World.grownBy.refl w _⟩
    rcases hown.2 with ⟨rfl, _⟩ | ⟨g, c, cur, rfl, _, _, hnc, _⟩
    · simp [Builtin.append_, run_underlying ht, sizeOf, typeInfo, hi, Builtin.lenOf, Builtin.firstCells]
    · simp [Builtin.append_, run_underlying ht, sizeOf, typeInfo, hi, Builtin.lenOf, Builtin.firstCells, hnc, storeCells]
  | some ad =>
    obtain ⟨v', w', hr, ho, hg, _⟩ := run_append_own (P := P) w base t ty e i0 z L.size bytes ht hi hz0 hz1 hz2 hz hsz v xs.length (L.cells xs) hown ad ys.length cap (L.cells ys) (cells_len L ys)
      (fun j x hx => by
        rcases h4 with rfl | ⟨b, off, _, hA, hc⟩
        · simp [Lay.cells] at hx
        · cases hA
          rw [Addr.add_lit]
          exact hc j x hx)
      (fun x hx => by
        obtain ⟨y, hy, hx⟩ := List.mem_flatMap.1 hx
        exact h1 y hy x hx) (by unfold maxLen; omega) (Nat.le_trans (Nat.mul_le_mul (show xs.length + ys.length ≤ 10000000 by omega) hby) (by decide)) hbase
    exact ⟨v', w', hr, by rw [List.length_append, cells_app]; exact ho, hg⟩

theorem wpList_app {P : Program} (e : TypeId) (z : Value) (bytes : Nat) {t : TypeId} (hinfo : (P.info? e).map (fun i => (i.zero, i.size, i.bytes)) = some (some z, L.size, bytes)) (ht : P.underlying t = some (.slice e)) (hz : z.cells.size = L.size) (hsz : 0 < L.size) (hby : bytes ≤ 1000)
    (w : World) {ops : Array Oper} {rest : List Oper} {o : Oper} {a : Act} {Q : Exit → Act → World → Prop} (hgd : o.guard = none) (s x : Operand)
    (hop : o.op = Op.call { callee := Callee.builtin Builtin.append, args := #[s, x], argTypes := #[t, t] }) (base : Nat) (v u : Value) (xs ys : List α) (B : Nat) (hs : a.eval s = v) (hown : w.ownsRow base e L.size v xs.length (L.cells xs))
    (hx : a.eval x = u) (hu : Lies L w B u ys) (h1 : ∀ y ∈ ys, ∀ u ∈ L.enc y, u.oneCell' = true) (hb : xs.length + ys.length ≤ 10000000) (hbase : base ≤ w.heap.size)
    (hK : ∀ v' w', w'.ownsRow base e L.size v' (xs ++ ys).length (L.cells (xs ++ ys)) → w.grownBy w' v.ownBlock → wpList P ops Q rest (a.put o.dst v') w') :
    wpList P ops Q (o :: rest) a w := by
  refine wpList_plain hgd fun K hK' => ?_
  obtain ⟨v', w', hr, h1, h2⟩ := run_app t o.type e z bytes hinfo ht hz hsz hby w hown hu h1 hb hbase
  unfold Oper.wp execOp
  simp only [hop, resolve, invoke, builtin, Sem.run_bind, Sem.run_pure, Result.andThen_ok, List.map_toArray, List.map_cons, List.map_nil, hs, hx, hr]
  exact hK' _ _ (hK v' w' h1 h2)

/-- A new row of the call's own. -/
theorem own_new (W : World) (e : TypeId) (cs : Array Value) (n : Nat) (base : Nat) (xs : List α) (hn : xs.length = n) (hcs : cs.toList = L.cells xs) (hb : base ≤ W.heap.size) (hm : n ≤ maxLen) : (W.alloc (.cells cs e)).ownsRow base e L.size (.slice (some ⟨W.heap.size, 0, none⟩) n n) n (L.cells xs) := by
  rw [← hcs]
  refine World.ownsRow_lit W cs n hb hm ?_
  rw [← Array.length_toList, hcs, cells_len, hn]
/-- What is owned, and lies in a block that is as it was, stays so. -/
theorem own_keep {base : Nat} {e : TypeId} {size n : Nat} {cs : List Value} (h : w.ownsRow base e size v n cs) (hk : ∀ b, v.ownBlock = some b → w'.heap[b]? = w.heap[b]?) : w'.ownsRow base e size v n cs := by
  refine ⟨h.1, ?_⟩
  rcases h.2 with h1 | ⟨g, cap, cur, rfl, hg, hh, r⟩
  · exact .inl h1
  · exact .inr ⟨g, cap, cur, rfl, hg, (hk g rfl).trans hh, r⟩
theorem own_below {base : Nat} {e : TypeId} {size n : Nat} {cs : List Value} (h : w.ownsRow base e size v n cs) (hb : Below w.heap.size w w') : w'.ownsRow base e size v n cs := own_keep h fun b hbk => hb.block b (h.lt b hbk).2
theorem own_form {base : Nat} {e : TypeId} {size n : Nat} {cs : List Value} (h : w.ownsRow base e size v n cs) : ∃ A cap, v = .slice A n cap ∧ n ≤ cap ∧ cap ≤ maxLen := by
  rcases h.2 with ⟨rfl, rfl⟩ | ⟨g, cap, cur, rfl, hg, hh, h1, h2, _⟩
  · exact ⟨none, 0, rfl, by simp, by simp⟩
  · exact ⟨_, cap, rfl, h1, h2⟩
end

theorem thn {w a b : World} (h : Below w.heap.size w a) (k : Below a.heap.size a b) : Below w.heap.size w b := h.trans (k.mono h.size)

/-! ### Buckets, and other elements of two numbers -/

abbrev Sp := Nat × Nat
def spL : Lay Sp := ⟨2, fun x => [.int .u64 x.1, .int .u64 x.2], fun _ => rfl⟩
theorem sp_one (ys : List Sp) : ∀ y ∈ ys, ∀ u ∈ spL.enc y, u.oneCell' = true := by
  intro y _ u hu
  simp only [spL, List.mem_cons, List.not_mem_nil, or_false] at hu
  rcases hu with rfl | rfl <;> rfl
theorem sp_at {w : World} {B : Nat} {A : Option Addr} {len cap : Nat} {xs : List Sp} (h : Lies spL w B (.slice A len cap) xs) (h0 : 0 < xs.length) : ∃ b off, A = some ⟨b, off, none⟩ ∧ b < B ∧ len = xs.length ∧ ∀ i (hi : i < xs.length), w.cell? ⟨b, off + i * 2, none⟩ = some (.int .u64 xs[i].1) ∧ w.cell? ⟨b, off + i * 2 + 1, none⟩ = some (.int .u64 xs[i].2) := by
  obtain ⟨b, off, hA, hb, hl, hc⟩ := h.addr h0
  refine ⟨b, off, hA, hb, hl, fun i hi => ⟨?_, ?_⟩⟩
  · exact hc i hi 0 _ rfl
  · exact hc i hi 1 _ rfl

/-- A slice of elements of two numbers that came in. -/
theorem sp_of_row {w : World} {A : Option Addr} {len cap : Nat} {z : Nat → Nat → Int} (h : Op.FlatRow [.u64, .u64] w A len cap z) :
    ∃ xs : List Sp, xs.length = len ∧ Lies spL w w.heap.size (.slice A len cap) xs ∧ ∀ x ∈ xs, x.1 < 18446744073709551616 ∧ x.2 < 18446744073709551616 := by
  obtain ⟨h1, h2, h3⟩ := h
  have hl : ((List.range len).map fun i => ((z i 0).toNat, (z i 1).toNat)).length = len := by simp
  rcases h3 with rfl | ⟨b, off, rfl, hb, hc⟩
  · exact ⟨[], rfl, Lies.nil A cap h2, by simp⟩
  have key : ∀ i, i < len → 0 ≤ z i 0 ∧ z i 0 < 18446744073709551616 ∧ 0 ≤ z i 1 ∧ z i 1 < 18446744073709551616 := by
    intro i hi
    obtain ⟨a0, a1⟩ := bounds_u64 (hc i hi 0 .u64 rfl).2
    obtain ⟨b0, b1⟩ := bounds_u64 (hc i hi 1 .u64 rfl).2
    omega
  refine ⟨(List.range len).map fun i => ((z i 0).toNat, (z i 1).toNat), hl, ⟨_, cap, by rw [hl], by rw [hl]; exact h1, h2, .inr ⟨b, off, hb, rfl, fun j u hu => ?_⟩⟩, fun x hx => ?_⟩
  · have hj : j < len * 2 := by
      have := (List.getElem?_eq_some_iff.1 hu).1
      rw [cells_len, hl] at this
      exact this
    obtain ⟨i, k, hk, rfl⟩ : ∃ i k, k < 2 ∧ j = i * 2 + k := ⟨j / 2, j % 2, by omega, by omega⟩
    have e := cells_at spL ((List.range len).map fun i => ((z i 0).toNat, (z i 1).toNat)) i k (by rw [hl]; omega) hk
    rw [show spL.size = 2 from rfl] at e
    rw [e] at hu
    simp only [List.getElem_map, List.getElem_range, spL] at hu
    have hk4 := key i (by omega)
    rcases k with _ | _ | k
    · have h4 := (hc i (by omega) 0 .u64 rfl).1
      simp only [List.length_cons, List.length_nil] at h4
      rw [h4, ← hu]
      simp
      omega
    · have h4 := (hc i (by omega) 1 .u64 rfl).1
      simp only [List.length_cons, List.length_nil] at h4
      rw [h4, ← hu]
      simp
      omega
    · omega
  · obtain ⟨i, hi, rfl⟩ := List.mem_map.1 hx
    have := key i (List.mem_range.1 hi)
    constructor <;> simp only <;> omega

end Go.Proofs.Rw
end
section
/- Append onto a row of the call's own: where the new row lies; what other rows keep. -/
namespace Go.Proofs.Rw
open Go Go.RowKit

section
variable {α : Type} {L : Lay α}

theorem run_app2 {P : Program} (t ty e : TypeId) (z : Value) (bytes : Nat) (hinfo : (P.info? e).map (fun i => (i.zero, i.size, i.bytes)) = some (some z, L.size, bytes)) (ht : P.underlying t = some (.slice e)) (hz : z.cells.size = L.size) (hsz : 0 < L.size) (hby : bytes ≤ 1000)
    (w : World) {base : Nat} {v u : Value} {xs ys : List α} {B : Nat} (hown : w.ownsRow base e L.size v xs.length (L.cells xs)) (hu : Lies L w B u ys) (h1 : ∀ y ∈ ys, ∀ u ∈ L.enc y, u.oneCell' = true) (hb : xs.length + ys.length ≤ 10000000) (hbase : base ≤ w.heap.size) :
    ∃ v' w', (Builtin.append_ #[t, t] ty #[v, u]).run P w = .ok v' w' ∧ w'.ownsRow base e L.size v' (xs ++ ys).length (L.cells (xs ++ ys)) ∧ w.grownBy w' v.ownBlock ∧ (v'.ownBlock = v.ownBlock ∨ v'.ownBlock = some w.heap.size) := by
  obtain ⟨v', w', hr, ho, hg⟩ := run_app t ty e z bytes hinfo ht hz hsz hby w hown hu h1 hb hbase
  refine ⟨v', w', hr, ho, hg, ?_⟩
  obtain ⟨i0, hi, hz0, hz1, hz2⟩ := info_parts hinfo
  obtain ⟨A, cap, rfl, h2, h3, h4⟩ := hu
  cases A with
  | none =>
    have hy : ys = [] := by
      rcases h4 with h4 | ⟨b, off, _, hA, _⟩
      · exact h4
      · cases hA
    subst hy
    have hr' : (Builtin.append_ #[t, t] ty #[v, .slice none ([] : List α).length cap]).run P w = .ok v w := by
      rcases hown.2 with ⟨rfl, _⟩ | ⟨g, c, cur, rfl, _, _, hnc, _⟩
      · simp [Builtin.append_, run_underlying ht, sizeOf, typeInfo, hi, Builtin.lenOf, Builtin.firstCells]
      · simp [Builtin.append_, run_underlying ht, sizeOf, typeInfo, hi, Builtin.lenOf, Builtin.firstCells, hnc, storeCells]
    rw [hr'] at hr
    injection hr with e1 _
    rw [← e1]
    exact .inl rfl
  | some ad =>
    have hnews : ∀ j x, (L.cells ys)[j]? = some x → w.cell? (ad.add j) = some x := fun j x hx => by
      rcases h4 with rfl | ⟨b, off, _, hA, hc⟩
      · simp [Lay.cells] at hx
      · cases hA
        rw [Addr.add_lit]
        exact hc j x hx
    have hone : ∀ x ∈ L.cells ys, x.oneCell' = true := fun x hx => by
      obtain ⟨y, hy, hx⟩ := List.mem_flatMap.1 hx
      exact h1 y hy x hx
    have hln : (L.cells ys).length = ys.length * i0.size := by rw [cells_len, hz1]
    have hbytes : (xs.length + ys.length) * i0.bytes ≤ 140737488355328 := by
      rw [hz2]
      exact Nat.le_trans (Nat.mul_le_mul hb hby) (by decide)
    rcases hown.2 with ⟨rfl, h0⟩ | ⟨g, c, cur, rfl, hbg, hgg, hnc, hcm, hcs, htake⟩
    · rcases Nat.eq_zero_or_pos ys.length with hm | hm
      · have hy : ys = [] := List.eq_nil_of_length_eq_zero hm
        subst hy
        have hr' : (Builtin.append_ #[t, t] ty #[.slice none 0 0, .slice (some ad) ([] : List α).length cap]).run P w = .ok (.slice none 0 0) w := by
          simp [Builtin.append_, run_underlying ht, sizeOf, typeInfo, hi, Builtin.lenOf, Builtin.firstCells, loadCells, loadCellsFrom]
        rw [hr'] at hr
        injection hr with e1 _
        rw [← e1]
        exact .inl rfl
      · have hr' := run_append_nil (P := P) w t ty e i0 z ht hi hz0 ad ys.length cap (L.cells ys) hln hnews (by omega) (by omega) (by rw [h0, Nat.zero_add] at hbytes; omega)
        rw [hr'] at hr
        injection hr with e1 _
        rw [← e1]
        exact .inr rfl
    · by_cases hroom : xs.length + ys.length ≤ c
      · have hfit : xs.length * i0.size + (L.cells ys).length ≤ cur.size := by rw [hln, hcs, ← hz1, ← Nat.add_mul]; exact Nat.mul_le_mul_right _ hroom
        have hr' := run_append_room (P := P) w t ty e i0 ht hi g xs.length c cur hgg ad ys.length cap (L.cells ys) hln hnews hone hroom hfit
        rw [hr'] at hr
        injection hr with e1 _
        rw [← e1]
        exact .inl rfl
      · have holds : ∀ j u, (L.cells xs)[j]? = some u → w.cell? ((⟨g, 0, none⟩ : Addr).add j) = some u := hown.cells (g := g) rfl
        have hr' := run_append_grow (P := P) w t ty e i0 z ht hi hz0 ⟨g, 0, none⟩ xs.length c (L.cells xs) (by rw [cells_len, hz1]) holds ad ys.length cap (L.cells ys) hln hnews (by omega) (by omega) (growslice_fits (by omega) hbytes)
        rw [hr'] at hr
        injection hr with e1 _
        rw [← e1]
        exact .inr rfl

theorem wpList_app2 {P : Program} (e : TypeId) (z : Value) (bytes : Nat) {t : TypeId} (hinfo : (P.info? e).map (fun i => (i.zero, i.size, i.bytes)) = some (some z, L.size, bytes)) (ht : P.underlying t = some (.slice e)) (hz : z.cells.size = L.size) (hsz : 0 < L.size) (hby : bytes ≤ 1000)
    (w : World) {ops : Array Oper} {rest : List Oper} {o : Oper} {a : Act} {Q : Exit → Act → World → Prop} (hgd : o.guard = none) (s x : Operand)
    (hop : o.op = Op.call { callee := Callee.builtin Builtin.append, args := #[s, x], argTypes := #[t, t] }) (base : Nat) (v u : Value) (xs ys : List α) (B : Nat) (hs : a.eval s = v) (hown : w.ownsRow base e L.size v xs.length (L.cells xs))
    (hx : a.eval x = u) (hu : Lies L w B u ys) (h1 : ∀ y ∈ ys, ∀ u ∈ L.enc y, u.oneCell' = true) (hb : xs.length + ys.length ≤ 10000000) (hbase : base ≤ w.heap.size)
    (hK : ∀ v' w', w'.ownsRow base e L.size v' (xs ++ ys).length (L.cells (xs ++ ys)) → w.grownBy w' v.ownBlock → (v'.ownBlock = v.ownBlock ∨ v'.ownBlock = some w.heap.size) → wpList P ops Q rest (a.put o.dst v') w') :
    wpList P ops Q (o :: rest) a w := by
  refine wpList_plain hgd fun K hK' => ?_
  obtain ⟨v', w', hr, h1, h2, h3⟩ := run_app2 t o.type e z bytes hinfo ht hz hsz hby w hown hu h1 hb hbase
  unfold Oper.wp execOp
  simp only [hop, resolve, invoke, builtin, Sem.run_bind, Sem.run_pure, Result.andThen_ok, List.map_toArray, List.map_cons, List.map_nil, hs, hx, hr]
  exact hK' _ _ (hK v' w' h1 h2 h3)

/-- What lies in a block that isn't written stays. -/
theorem Lies.off {w w' : World} {v : Value} {xs : List α} {row : Option Nat} (h : Lies L w w.heap.size v xs) (hg : w.grownBy w' row) (hne : ∀ b, v.ownBlock = some b → some b ≠ row) : Lies L w' w'.heap.size v xs := by
  obtain ⟨A, cap, rfl, h1, h2, h3⟩ := h
  refine ⟨A, cap, rfl, h1, h2, ?_⟩
  rcases h3 with h3 | ⟨b, off, hb, rfl, hc⟩
  · exact .inl h3
  · refine .inr ⟨b, off, Nat.lt_of_lt_of_le hb hg.size, rfl, fun j u hu => (World.cell?_of_block (a := ⟨b, off + j, none⟩) (hg.block b hb (hne b rfl))).trans (hc j u hu)⟩
end

end Go.Proofs.Rw
end
section
/- Slices of slices: levels of buckets in memory, and a row of the call's own to which levels are appended. -/
namespace Go.Proofs.Rw
open Go Go.RowKit

/-- One value a cell. -/
def valL : Lay Value := ⟨1, fun v => [v], fun _ => rfl⟩
theorem valL_cells (vs : List Value) : valL.cells vs = vs := by
  induction vs with
  | nil => rfl
  | cons v vs ih => rw [cells_cons, ih]; rfl

/-- Nothing, in whatever world, is 'nil'. -/
def NilOk (v : Value) : Prop := ∀ n c, v = .slice none n c → n = 0 ∧ c = 0
/-- The block b holds cells of the type T. -/
def Ty (w : World) (T : TypeId) (b : Nat) : Prop := ∃ (cs : Array Value) (fr : Nat × Nat), w.heap[b]? = some (.cells cs T fr)
theorem Ty.lt {w : World} {T : TypeId} {b : Nat} (h : Ty w T b) : b < w.heap.size := by
  obtain ⟨cs, fr, h⟩ := h
  exact (Array.getElem?_eq_some_iff.1 h).1
theorem Ty.keep {w w' : World} {T : TypeId} {b : Nat} (h : Ty w T b) (hk : w'.heap[b]? = w.heap[b]?) : Ty w' T b := by
  obtain ⟨cs, fr, h⟩ := h
  exact ⟨cs, fr, hk.trans h⟩
theorem Ty.ne {w : World} {T T' : TypeId} {b b' : Nat} (h : Ty w T b) (h' : Ty w T' b') (hne : T ≠ T') : b ≠ b' := by
  rintro rfl
  obtain ⟨cs, fr, h⟩ := h
  obtain ⟨cs', fr', h'⟩ := h'
  rw [h] at h'
  injection h' with h'
  injection h' with _ h' _
  exact hne h'
/-- What is held, is held in blocks of the type T. -/
def Held (w : World) (T : TypeId) (v : Value) : Prop := ∀ b, v.ownBlock = some b → Ty w T b
theorem lies_lt {α : Type} {L : Lay α} {w : World} {B : Nat} {v : Value} {xs : List α} (h : Lies L w B v xs) (hn : xs ≠ []) {b : Nat} (hb : v.ownBlock = some b) : b < B := by
  obtain ⟨A, cap, rfl, _, _, h6⟩ := h
  rcases h6 with h6 | ⟨b', off, hb', rfl, _⟩
  · exact absurd h6 hn
  · injection hb with hb
    exact hb ▸ hb'
section
variable {w w' : World} {B B' : Nat} {v : Value} {ls : List (List Sp)}

theorem Lies.off2 {α : Type} {L : Lay α} {w w' : World} {v : Value} {xs : List α} {row : Option Nat} (h : Lies L w w.heap.size v xs) (hg : w.grownBy w' row) (hne : xs ≠ [] → ∀ b, v.ownBlock = some b → some b ≠ row) : Lies L w' w'.heap.size v xs := by
  by_cases hx : xs = []
  · obtain ⟨A, cap, rfl, h1, h2, _⟩ := h
    exact ⟨A, cap, rfl, h1, h2, .inl hx⟩
  · exact h.off hg (hne hx)

theorem slice_one {A : Option Addr} {n c : Nat} : (Value.slice A n c).oneCell' = true := rfl
theorem lies_one {α : Type} {L : Lay α} {xs : List α} (h : Lies L w B v xs) : v.oneCell' = true := by
  obtain ⟨A, cap, rfl, _⟩ := h
  rfl

/-- A level, new in a literal of one: what append is handed. -/
theorem lit_val (W : World) (T : TypeId) (n : Nat) (hn : W.heap.size = n) (u : Value) : Lies valL (W.alloc (.cells #[u] T)) (n + 1) (.slice (some ⟨n, 0, none⟩) 1 1) [u] := by
  subst hn
  refine ⟨_, 1, rfl, by simp, by unfold maxLen; omega, .inr ⟨W.heap.size, 0, by omega, rfl, fun j x hx => ?_⟩⟩
  rw [Nat.zero_add, cell_of_row _ _ _ #[u] T (0, 0) (heap_alloc_new W _)]
  rw [valL_cells] at hx
  simpa using hx

theorem own_len {w : World} {base n c m : Nat} {A : Option Addr} {e : TypeId} {size : Nat} {cs : List Value} (h : w.ownsRow base e size (.slice A n c) m cs) : n = m := by
  rcases h.2 with ⟨h1, h2⟩ | ⟨g, cap, cur, h1, _⟩
  · injection h1 with _ h1 _
    omega
  · injection h1 with _ h1 _
end

end Go.Proofs.Rw
end
section
/- Levels that are read alone: slices of slices in memory, of whatever blocks; and how they come in as an argument. -/
namespace Go.Proofs.Rw
open Go Go.RowKit

/-- The slice value v holds slices that hold the levels ls, in blocks below B; nothing is said of the blocks' types. -/
def Reads (w : World) (B : Nat) (v : Value) (ls : List (List Sp)) : Prop :=
  NilOk v ∧ ∃ vs : List Value, Lies valL w B v vs ∧ vs.length = ls.length ∧ ∀ (i : Nat) (u : Value) (l : List Sp), vs[i]? = some u → ls[i]? = some l → Lies spL w B u l

section
variable {w w' : World} {B B' : Nat} {v : Value} {ls : List (List Sp)}
theorem Reads.keep (h : Reads w B v ls) (hk : ∀ b, b < B → w'.heap[b]? = w.heap[b]?) : Reads w' B v ls := by
  obtain ⟨h0, vs, h1, h2, h3⟩ := h
  exact ⟨h0, vs, h1.keep hk, h2, fun i u l hu hl => (h3 i u l hu hl).keep hk⟩
theorem Reads.below (h : Reads w B v ls) (hb : Below B w w') : Reads w' B v ls := h.keep hb.block
theorem Reads.mono (h : Reads w B v ls) (hB : B ≤ B') : Reads w B' v ls := by
  obtain ⟨h0, vs, h1, h2, h3⟩ := h
  exact ⟨h0, vs, h1.mono hB, h2, fun i u l hu hl => (h3 i u l hu hl).mono hB⟩
theorem Reads.grow (h : Reads w w.heap.size v ls) (hb : Below w.heap.size w w') : Reads w' w'.heap.size v ls := (h.below hb).mono hb.size
theorem Reads.alloc (h : Reads w B v ls) (hB : B ≤ w.heap.size) (o : Obj) : Reads (w.alloc o) B v ls := h.keep fun b hb => Below.heap_alloc w o b (by omega)
theorem Reads.form (h : Reads w B v ls) : ∃ A cap, v = .slice A ls.length cap ∧ ls.length ≤ cap ∧ cap ≤ maxLen ∧ Reads w B (.slice A ls.length cap) ls := by
  obtain ⟨h0, vs, h1, h2, h3⟩ := h
  obtain ⟨A, cap, hv, h4, h5, h6⟩ := h1.form
  rw [h2] at hv h4 h6
  rw [hv] at h0
  exact ⟨A, cap, hv, h4, h5, h0, vs, h6, h2, h3⟩
/-- The level i: its slice's cell, and what it holds. -/
theorem Reads.at {A : Option Addr} {len cap : Nat} (h : Reads w B (.slice A len cap) ls) (h0 : 0 < ls.length) : ∃ b off, A = some ⟨b, off, none⟩ ∧ b < B ∧ len = ls.length ∧
    ∀ i (hi : i < ls.length), ∃ Ai ci, w.cell? ⟨b, off + i, none⟩ = some (.slice Ai ls[i].length ci) ∧ ls[i].length ≤ ci ∧ ci ≤ maxLen ∧ Lies spL w B (.slice Ai ls[i].length ci) ls[i] := by
  obtain ⟨_, vs, h1, h2, h3⟩ := h
  obtain ⟨b, off, hA, hb, hl, hc⟩ := h1.addr (by omega)
  refine ⟨b, off, hA, hb, by omega, fun i hi => ?_⟩
  have hiv : i < vs.length := by omega
  have hL := h3 i vs[i] ls[i] (List.getElem?_eq_getElem hiv) (List.getElem?_eq_getElem hi)
  obtain ⟨Ai, ci, hu, h4, h5, h6⟩ := hL.form
  refine ⟨Ai, ci, ?_, h4, h5, h6⟩
  have := hc i hiv 0 vs[i] rfl
  rw [show i * valL.size + 0 = i by show i * 1 + 0 = i; omega, hu] at this
  exact this
end
end Go.Proofs.Rw
namespace Go.Proofs.Op
open Go Go.RowKit Go.ChangeShapes Go.WideShapes Go.Deep Go.Proofs.Rw

section
variable {H : Type} {enc : TypeId × Value → H} {P : Program} {w : World} {base : Nat} {spare : Nat → Bool} {held : Bool}

/-- Cells of levels that came in. -/
theorem open_levels {f : Nat} {t e1 e : TypeId} {fuel : Nat} {cs : List Value} {x : DataW H × List MemPlace} (ht : P.underlying t = some (.slice e1)) (ht1 : P.underlying e1 = some (.slice e)) (hc1 : P.cellsOf e1 = 1)
    (hk : kinds P f e = some [.u64, .u64]) (hC : P.cellsOf e = 2) (h : DataW.trod enc P w base spare held fuel t cs = some x) :
    ∃ (A : Option Addr) (c : Nat) (ls : List (List Sp)), cs = [.slice A ls.length c] ∧ Reads w w.heap.size (.slice A ls.length c) ls ∧ ∀ l ∈ ls, ∀ y ∈ l, y.1 < 18446744073709551616 ∧ y.2 < 18446744073709551616 := by
  rcases open_slice1 ht hc1 h with ⟨rfl, _⟩ | ⟨a, len, cap, m, n, V, D, Pl, rfl, _, hl, hm, hmm, _, hx⟩
  · exact ⟨none, 0, [], rfl, ⟨fun n c e => (by injection e with _ e1 e2; simp only [List.length_nil] at e1; omega), [], Lies.nil none 0 (by simp), rfl, fun i u l hu _ => (by simp at hu)⟩, by simp⟩
  · have hlm : len ≤ m := by rw [hmm]; split <;> omega
    have each : ∀ i, i < len → ∃ l : List Sp, Lies spL w w.heap.size (V i) l ∧ ∀ y ∈ l, y.1 < 18446744073709551616 ∧ y.2 < 18446744073709551616 := by
      intro i hi
      obtain ⟨_, ht'⟩ := hx i (by omega)
      have key : ∃ ai ni ci, V i = .slice ai ni ci := by
        rcases open_slice ht1 ht' with ⟨e, _⟩ | ⟨a', l', c', _, _, _, _, e, _⟩
        · injection e with e
          exact ⟨_, _, _, e⟩
        · injection e with e
          exact ⟨_, _, _, e⟩
      obtain ⟨ai, ni, ci, e⟩ := key
      rw [e] at ht'
      obtain ⟨z, hz⟩ := open_flats (f := f) (ks := [.u64, .u64]) ht1 hk hC (by decide) ⟨n, ht'⟩
      obtain ⟨xs, e1, e2, e3⟩ := sp_of_row hz
      exact ⟨xs, by rw [e]; exact e2, e3⟩
    rcases Nat.eq_zero_or_pos len with h0 | h0
    · subst h0
      exact ⟨some a, cap, [], rfl, ⟨fun n c e => (by cases e), [], Lies.nil _ _ hm, rfl, fun i u l hu _ => (by simp at hu)⟩, by simp⟩
    obtain ⟨b, off, spot⟩ := a
    have hs : spot = none := by
      have := (hx 0 (by omega)).1
      simpa [Addr.add] using World.cell?_spot this
    subst hs
    have hcell : ∀ i, i < len → w.cell? ⟨b, off + i, none⟩ = some (V i) := fun i hi => by
      have := (hx i (by omega)).1
      rwa [Go.WideShapes.add_plain] at this
    have hbl : b < w.heap.size := World.block_lt_of_cell? w _ (hcell 0 h0)
    have hall : ∃ ls : List (List Sp), ls.length = len ∧ ∀ i (hi : i < ls.length), Lies spL w w.heap.size (V i) ls[i] ∧ ∀ y ∈ ls[i], y.1 < 18446744073709551616 ∧ y.2 < 18446744073709551616 := by
      suffices g : ∀ k, k ≤ len → ∃ ls : List (List Sp), ls.length = k ∧ ∀ i (hi : i < ls.length), Lies spL w w.heap.size (V i) ls[i] ∧ ∀ y ∈ ls[i], y.1 < 18446744073709551616 ∧ y.2 < 18446744073709551616 from g len (Nat.le_refl _)
      intro k
      induction k with
      | zero => intro _; exact ⟨[], rfl, fun i hi => absurd hi (by simp)⟩
      | succ k ih =>
        intro hk'
        obtain ⟨ls, h1, h2⟩ := ih (by omega)
        obtain ⟨l, h3⟩ := each k (by omega)
        refine ⟨ls ++ [l], by simp [h1], fun i hi => ?_⟩
        rcases Nat.lt_or_ge i ls.length with h | h
        · rw [List.getElem_append_left h]
          exact h2 i h
        · have e : i = k := by simp at hi; omega
          subst e
          rw [List.getElem_append_right h]
          simpa [h1] using h3
    obtain ⟨ls, h1, h2⟩ := hall
    have hvl : ((List.range len).map V).length = len := by simp
    refine ⟨some ⟨b, off, none⟩, cap, ls, by rw [h1], ⟨fun n c e => (by cases e), (List.range len).map V, ?_, by rw [hvl, h1], fun i u l hu hl' => ?_⟩, fun l hlm' => ?_⟩
    · refine ⟨some ⟨b, off, none⟩, cap, by rw [hvl, h1], by rw [hvl]; exact hl, hm, .inr ⟨b, off, hbl, rfl, fun j u hu => ?_⟩⟩
      rw [valL_cells] at hu
      obtain ⟨hj, e⟩ := List.getElem?_eq_some_iff.1 hu
      rw [hvl] at hj
      rw [hcell j hj, ← e]
      simp
    · obtain ⟨hi, e⟩ := List.getElem?_eq_some_iff.1 hl'
      obtain ⟨hj, e'⟩ := List.getElem?_eq_some_iff.1 hu
      have := (h2 i hi).1
      rw [e] at this
      rw [← e']
      simpa using this
    · obtain ⟨i, hi, e⟩ := List.getElem_of_mem hlm'
      have := (h2 i hi).2
      rw [e] at this
      exact this

/-- A struct of two numbers and levels, by value. -/
theorem open_raw {f : Nat} {r : Reach} {b0 : Nat} {t e1 e : TypeId} {f0 f1 f2 : Field} {v : Value} {d : DataW H} {p : List MemPlace} (ht : P.underlying t = some (.struct #[f0, f1, f2])) (hs : P.cellsOf t = 3)
    (k0 : P.underlying f0.type = some (.int .i64)) (k1 : P.underlying f1.type = some (.int .i64)) (o : f0.offset = 0 ∧ f1.offset = 1 ∧ f2.offset = 2) (c : P.cellsOf f0.type = 1 ∧ P.cellsOf f1.type = 1 ∧ P.cellsOf f2.type = 1)
    (hl : P.underlying f2.type = some (.slice e1)) (hl1 : P.underlying e1 = some (.slice e)) (hc1 : P.cellsOf e1 = 1) (hk : kinds P f e = some [.u64, .u64]) (hC : P.cellsOf e = 2)
    (hv : Value.okWide P w r b0 t v) (h : DataW.Trod enc P w base spare held t v d p) :
    ∃ (k g : Int) (A : Option Addr) (cp : Nat) (ls : List (List Sp)), v = .agg #[.int .i64 k, .int .i64 g, .slice A ls.length cp] ∧ (Lit.int .i64 k).wf = true ∧ (Lit.int .i64 g).wf = true ∧ Reads w w.heap.size (.slice A ls.length cp) ls ∧ ∀ l ∈ ls, ∀ y ∈ l, y.1 < 18446744073709551616 ∧ y.2 < 18446744073709551616 := by
  obtain ⟨fuel, hf⟩ := h
  obtain ⟨cs, rfl, hsz⟩ := okWide_struct ht hv
  rw [hs] at hsz
  obtain ⟨xs, n, _, _, _, hxl, hfi⟩ := DataW.trod_struct ht hf
  obtain ⟨cl⟩ := cs
  simp only [List.size_toArray] at hsz
  match cl, hsz with
  | [u0, u1, u2], _ =>
    match xs, hxl with
    | [x0, x1, x2], _ =>
      have g0 := hfi 0 f0 rfl
      have g1 := hfi 1 f1 rfl
      have g2 := hfi 2 f2 rfl
      rw [o.1, c.1] at g0
      rw [o.2.1, c.2.1] at g1
      rw [o.2.2, c.2.2] at g2
      have h0 : DataW.trod enc P w base spare held n f0.type [u0] = some x0 := g0
      have h1 : DataW.trod enc P w base spare held n f1.type [u1] = some x1 := g1
      have h2 : DataW.trod enc P w base spare held n f2.type [u2] = some x2 := g2
      obtain ⟨k, e0, _, w0⟩ := DataW.trod_int k0 h0
      obtain ⟨g, e1', _, w1⟩ := DataW.trod_int k1 h1
      obtain ⟨A, cp, ls, e2, hr, hb⟩ := open_levels (f := f) hl hl1 hc1 hk hC h2
      injection e0 with e0
      injection e1' with e1'
      injection e2 with e2
      exact ⟨k, g, A, cp, ls, by rw [e0, e1', e2], w0, w1, hr, hb⟩

/-- A slice of slices of two numbers, by value. -/
theorem open_lists {f : Nat} {r : Reach} {b0 : Nat} {t e1 e : TypeId} {v : Value} {d : DataW H} {p : List MemPlace} (ht : P.underlying t = some (.slice e1)) (ht1 : P.underlying e1 = some (.slice e)) (hc1 : P.cellsOf e1 = 1)
    (hk : kinds P f e = some [.u64, .u64]) (hC : P.cellsOf e = 2) (hv : Value.okWide P w r b0 t v) (h : DataW.Trod enc P w base spare held t v d p) :
    ∃ (A : Option Addr) (cp : Nat) (ls : List (List Sp)), v = .slice A ls.length cp ∧ Reads w w.heap.size (.slice A ls.length cp) ls ∧ ∀ l ∈ ls, ∀ y ∈ l, y.1 < 18446744073709551616 ∧ y.2 < 18446744073709551616 := by
  obtain ⟨a, len, cap, rfl⟩ := okWide_slice ht hv
  obtain ⟨fuel, hf⟩ := h
  obtain ⟨A, cp, ls, e2, hr, hb⟩ := open_levels (f := f) ht ht1 hc1 hk hC hf
  simp only [Value.cells, List.cons.injEq, Value.slice.injEq, and_true] at e2
  obtain ⟨rfl, rfl, rfl⟩ := e2
  exact ⟨a, cap, ls, rfl, hr, hb⟩
/-- One slice of two numbers, as cells. -/
theorem open_list {f : Nat} {t e : TypeId} {fuel : Nat} {u : Value} {x : DataW H × List MemPlace} (ht : P.underlying t = some (.slice e)) (hk : kinds P f e = some [.u64, .u64]) (hC : P.cellsOf e = 2) (h : DataW.trod enc P w base spare held fuel t [u] = some x) :
    ∃ (A : Option Addr) (n c : Nat) (z : Nat → Nat → Int), u = .slice A n c ∧ FlatRow [.u64, .u64] w A n c z := by
  have key : ∃ ai ni ci, u = .slice ai ni ci := by
    rcases open_slice ht h with ⟨e, _⟩ | ⟨a', l', c', _, _, _, _, e, _⟩
    · injection e with e
      exact ⟨_, _, _, e⟩
    · injection e with e
      exact ⟨_, _, _, e⟩
  obtain ⟨ai, ni, ci, rfl⟩ := key
  obtain ⟨z, hz⟩ := open_flats (f := f) (ks := [.u64, .u64]) ht hk hC (by decide) ⟨fuel, h⟩
  exact ⟨ai, ni, ci, z, rfl, hz⟩
/-- A struct of a number, four slices of two numbers, and a small number, by value. -/
theorem open_tree {f : Nat} {r : Reach} {b0 : Nat} {t e1 e : TypeId} {f0 f1 f2 : Field} {v : Value} {d : DataW H} {p : List MemPlace} (ht : P.underlying t = some (.struct #[f0, f1, f2])) (hs : P.cellsOf t = 6)
    (k0 : P.underlying f0.type = some (.int .i64)) (k1 : P.underlying f1.type = some (.array 4 e1)) (k2 : P.underlying f2.type = some (.int .u8)) (o : f0.offset = 0 ∧ f1.offset = 1 ∧ f2.offset = 5) (c : P.cellsOf f0.type = 1 ∧ P.cellsOf f1.type = 4 ∧ P.cellsOf f2.type = 1)
    (hl1 : P.underlying e1 = some (.slice e)) (hc1 : P.cellsOf e1 = 1) (hk : kinds P f e = some [.u64, .u64]) (hC : P.cellsOf e = 2)
    (hv : Value.okWide P w r b0 t v) (h : DataW.Trod enc P w base spare held t v d p) :
    ∃ (k g : Int) (A : Fin 4 → Option Addr) (n c : Fin 4 → Nat) (z : Fin 4 → Nat → Nat → Int), v = .agg #[.int .i64 k, .slice (A 0) (n 0) (c 0), .slice (A 1) (n 1) (c 1), .slice (A 2) (n 2) (c 2), .slice (A 3) (n 3) (c 3), .int .u8 g] ∧
      (Lit.int .i64 k).wf = true ∧ (Lit.int .u8 g).wf = true ∧ ∀ j : Fin 4, FlatRow [.u64, .u64] w (A j) (n j) (c j) (z j) := by
  obtain ⟨fuel, hf⟩ := h
  obtain ⟨cs, rfl, hsz⟩ := okWide_struct ht hv
  rw [hs] at hsz
  obtain ⟨xs, m, _, _, _, hxl, hfi⟩ := DataW.trod_struct ht hf
  obtain ⟨cl⟩ := cs
  simp only [List.size_toArray] at hsz
  match cl, hsz with
  | [u0, u1, u2, u3, u4, u5], _ =>
    match xs, hxl with
    | [x0, x1, x2], _ =>
      have g0 := hfi 0 f0 rfl
      have g1 := hfi 1 f1 rfl
      have g2 := hfi 2 f2 rfl
      rw [o.1, c.1] at g0
      rw [o.2.1, c.2.1] at g1
      rw [o.2.2, c.2.2] at g2
      have h0 : DataW.trod enc P w base spare held m f0.type [u0] = some x0 := g0
      have h1 : DataW.trod enc P w base spare held m f1.type [u1, u2, u3, u4] = some x1 := g1
      have h2 : DataW.trod enc P w base spare held m f2.type [u5] = some x2 := g2
      obtain ⟨k, e0, _, w0⟩ := DataW.trod_int k0 h0
      obtain ⟨g, e5, _, w5⟩ := DataW.trod_int k2 h2
      obtain ⟨ys, m', _, _, _, hyl, hy⟩ := DataW.trod_array k1 h1
      rw [hc1] at hy
      match ys, hyl with
      | [y0, y1, y2, y3], _ =>
        have a0 : DataW.trod enc P w base spare held m' e1 [u1] = some y0 := hy 0 (by omega)
        have a1 : DataW.trod enc P w base spare held m' e1 [u2] = some y1 := hy 1 (by omega)
        have a2 : DataW.trod enc P w base spare held m' e1 [u3] = some y2 := hy 2 (by omega)
        have a3 : DataW.trod enc P w base spare held m' e1 [u4] = some y3 := hy 3 (by omega)
        obtain ⟨A0, n0, c0, z0, rfl, q0⟩ := open_list (f := f) hl1 hk hC a0
        obtain ⟨A1, n1, c1, z1, rfl, q1⟩ := open_list (f := f) hl1 hk hC a1
        obtain ⟨A2, n2, c2, z2, rfl, q2⟩ := open_list (f := f) hl1 hk hC a2
        obtain ⟨A3, n3, c3, z3, rfl, q3⟩ := open_list (f := f) hl1 hk hC a3
        injection e0 with e0
        injection e5 with e5
        refine ⟨k, g, fun j => [A0, A1, A2, A3][j.1]'j.2, fun j => [n0, n1, n2, n3][j.1]'j.2, fun j => [c0, c1, c2, c3][j.1]'j.2, fun j => [z0, z1, z2, z3][j.1]'j.2, by rw [e0, e5]; rfl, w0, w5, fun j => ?_⟩
        match j with
        | 0 => exact q0
        | 1 => exact q1
        | 2 => exact q2
        | 3 => exact q3
end
end Go.Proofs.Op
end
