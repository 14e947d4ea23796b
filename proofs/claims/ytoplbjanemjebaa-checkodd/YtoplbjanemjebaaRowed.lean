/- Elements that lie one behind the other in memory, each of so many cells: a slice that holds a list, a row of the call's own, append. -/
import Derived.Laws.OwnMore
import Derived.Below
import Derived.OpenShut
import Derived.OwnWalk
import Derived.Lib.Hide
import Derived.Test.YtoplbjanemjebaaOpen
namespace Go.Proofs.Rw
open Go Go.RowKit

/-- How an element lies in memory. -/
structure Lay (α : Type) where
  size : Nat
  enc : α → List Value
  len : ∀ a, (enc a).length = size

section
variable {α : Type} (L : Lay α)

def Lay.cells (xs : List α) : List Value := xs.flatMap L.enc
theorem cells_nil : L.cells [] = [] := rfl
theorem cells_cons (x : α) (xs : List α) : L.cells (x :: xs) = L.enc x ++ L.cells xs := rfl
theorem cells_app (xs ys : List α) : L.cells (xs ++ ys) = L.cells xs ++ L.cells ys := by simp [Lay.cells]
theorem cells_one (x : α) : L.cells [x] = L.enc x := by simp [Lay.cells]
theorem cells_len (xs : List α) : (L.cells xs).length = xs.length * L.size := by
  induction xs with
  | nil => simp [Lay.cells]
  | cons x xs ih => rw [cells_cons, List.length_append, L.len, ih, List.length_cons, Nat.add_mul]; omega
theorem cells_at (xs : List α) (i j : Nat) (hi : i < xs.length) (hj : j < L.size) : (L.cells xs)[i * L.size + j]? = (L.enc xs[i])[j]? := by
  induction xs generalizing i with
  | nil => simp at hi
  | cons x xs ih =>
    rw [cells_cons]
    cases i with
    | zero => rw [Nat.zero_mul, Nat.zero_add, List.getElem?_append_left (by rw [L.len]; exact hj)]; rfl
    | succ i =>
      rw [List.getElem?_append_right (by rw [L.len, Nat.add_mul]; omega), L.len, show (i + 1) * L.size + j - L.size = i * L.size + j by rw [Nat.add_mul]; omega]
      exact ih i (by simpa using hi)
theorem cells_take (xs : List α) (k : Nat) : (L.cells xs).take (k * L.size) = L.cells (xs.take k) := by
  rcases Nat.lt_or_ge xs.length k with h | h
  · rw [List.take_of_length_le (by rw [cells_len]; exact Nat.mul_le_mul_right _ (by omega)), List.take_of_length_le (by omega)]
  · have e := cells_app L (xs.take k) (xs.drop k)
    rw [List.take_append_drop] at e
    have hl : (L.cells (xs.take k)).length = k * L.size := by rw [cells_len, List.length_take, Nat.min_eq_left h]
    rw [e, ← hl, List.take_left]
theorem cells_drop (xs : List α) (k : Nat) : (L.cells xs).drop (k * L.size) = L.cells (xs.drop k) := by
  rcases Nat.lt_or_ge xs.length k with h | h
  · rw [List.drop_of_length_le (by rw [cells_len]; exact Nat.mul_le_mul_right _ (by omega)), List.drop_of_length_le (by omega)]; rfl
  · have e := cells_app L (xs.take k) (xs.drop k)
    rw [List.take_append_drop] at e
    have hl : (L.cells (xs.take k)).length = k * L.size := by rw [cells_len, List.length_take, Nat.min_eq_left h]
    rw [e, ← hl, List.drop_left]

/-- The slice value v holds just the elements xs, and lies below block B. -/
def Lies (w : World) (B : Nat) (v : Value) (xs : List α) : Prop :=
  ∃ A cap, v = .slice A xs.length cap ∧ xs.length ≤ cap ∧ cap ≤ maxLen ∧ (xs = [] ∨ ∃ b off, b < B ∧ A = some ⟨b, off, none⟩ ∧ ∀ j u, (L.cells xs)[j]? = some u → w.cell? ⟨b, off + j, none⟩ = some u)

variable {L} {w w' : World} {B B' : Nat} {v : Value} {xs ys : List α}

theorem Lies.keep (h : Lies L w B v xs) (hk : ∀ b, b < B → w'.heap[b]? = w.heap[b]?) : Lies L w' B v xs := by
  obtain ⟨A, cap, hv, h1, h2, h3⟩ := h
  refine ⟨A, cap, hv, h1, h2, ?_⟩
  rcases h3 with h3 | ⟨b, off, hb, hA, hc⟩
  · exact .inl h3
  · exact .inr ⟨b, off, hb, hA, fun j u hu => (World.cell?_of_block (a := ⟨b, off + j, none⟩) (hk b hb)).trans (hc j u hu)⟩
theorem Lies.below (h : Lies L w B v xs) (hb : Below B w w') : Lies L w' B v xs := h.keep hb.block
theorem Lies.mono (h : Lies L w B v xs) (hB : B ≤ B') : Lies L w B' v xs := by
  obtain ⟨A, cap, hv, h1, h2, h3⟩ := h
  refine ⟨A, cap, hv, h1, h2, h3.imp id ?_⟩
  rintro ⟨b, off, hb, r⟩
  exact ⟨b, off, by omega, r⟩
theorem Lies.grow (h : Lies L w w.heap.size v xs) (hb : Below w.heap.size w w') : Lies L w' w'.heap.size v xs := (h.below hb).mono hb.size
theorem Lies.alloc (h : Lies L w B v xs) (hB : B ≤ w.heap.size) (o : Obj) : Lies L (w.alloc o) B v xs := h.keep fun b hb => Below.heap_alloc w o b (by omega)
theorem Lies.nil (A : Option Addr) (cap : Nat) (h : cap ≤ maxLen) : Lies L w B (.slice A 0 cap) [] := ⟨A, cap, rfl, by simp, h, .inl rfl⟩
theorem Lies.form (h : Lies L w B v xs) : ∃ A cap, v = .slice A xs.length cap ∧ xs.length ≤ cap ∧ cap ≤ maxLen ∧ Lies L w B (.slice A xs.length cap) xs := by
  obtain ⟨A, cap, hv, h1, h2, h3⟩ := h
  exact ⟨A, cap, hv, h1, h2, A, cap, rfl, h1, h2, h3⟩
theorem Lies.addr {A : Option Addr} {len cap : Nat} (h : Lies L w B (.slice A len cap) xs) (h0 : 0 < xs.length) : ∃ b off, A = some ⟨b, off, none⟩ ∧ b < B ∧ len = xs.length ∧ ∀ i (hi : i < xs.length) j u, (L.enc xs[i])[j]? = some u → w.cell? ⟨b, off + (i * L.size + j), none⟩ = some u := by
  obtain ⟨A', cap', hv, h1, h2, h3⟩ := h
  injection hv with e1 e2 e3
  subst e1
  rcases h3 with rfl | ⟨b, off, hb, hA, hc⟩
  · simp at h0
  · refine ⟨b, off, hA, hb, e2, fun i hi j u hu => hc _ _ ?_⟩
    rw [cells_at L xs i j hi ?_]
    · exact hu
    · rw [← L.len xs[i]]; exact (List.getElem?_eq_some_iff.1 hu).1

theorem Lies.of_own {base : Nat} {e : TypeId} (h : w.ownsRow base e L.size v xs.length (L.cells xs)) : Lies L w w.heap.size v xs := by
  rcases h.2 with ⟨rfl, h0⟩ | ⟨g, cap, cur, rfl, hb, hg, h1, h2, h3, h4⟩
  · have : xs = [] := List.eq_nil_of_length_eq_zero h0
    subst this
    exact ⟨none, 0, rfl, by simp, by simp, .inl rfl⟩
  · refine ⟨_, cap, rfl, h1, h2, .inr ⟨g, 0, (Array.getElem?_eq_some_iff.1 hg).1, rfl, fun j u hu => ?_⟩⟩
    have hj : j < xs.length * L.size := by rw [← cells_len]; exact (List.getElem?_eq_some_iff.1 hu).1
    rw [Nat.zero_add, h.cellAt j hj]
    exact hu

theorem Lies.take {A : Option Addr} {cap : Nat} (h : Lies L w B (.slice A xs.length cap) xs) (k c : Nat) (hk : k ≤ xs.length) (hc : k ≤ c) (hm : c ≤ maxLen) : Lies L w B (.slice A k c) (xs.take k) := by
  obtain ⟨A', cap', hv, h1, h2, h3⟩ := h
  injection hv with e1 e2 e3
  subst e1; subst e3
  have hl : (xs.take k).length = k := by simp; omega
  refine ⟨A, c, by rw [hl], by omega, hm, ?_⟩
  rcases h3 with rfl | ⟨b, off, hb, hA, hcc⟩
  · exact .inl (by simp)
  · refine .inr ⟨b, off, hb, hA, fun j u hu => hcc j u ?_⟩
    rw [← cells_take, List.getElem?_take] at hu
    split at hu
    · exact hu
    · cases hu
theorem Lies.drop {A : Option Addr} {cap : Nat} (h : Lies L w B (.slice A xs.length cap) xs) (k : Nat) (hk : k ≤ xs.length) (A' : Option Addr) (hA' : ∀ b off, A = some ⟨b, off, none⟩ → k < cap → A' = some ⟨b, off + k * L.size, none⟩) : Lies L w B (.slice A' (xs.length - k) (cap - k)) (xs.drop k) := by
  obtain ⟨A0, cap', hv, h1, h2, h3⟩ := h
  injection hv with e1 e2 e3
  subst e1; subst e3
  have hl : (xs.drop k).length = xs.length - k := by simp
  refine ⟨A', cap - k, by rw [hl], by omega, by omega, ?_⟩
  rcases Nat.eq_or_lt_of_le hk with e | hlt
  · exact .inl (List.drop_of_length_le (by omega))
  rcases h3 with rfl | ⟨b, off, hb, hA, hcc⟩
  · exact .inl (by simp)
  · refine .inr ⟨b, off + k * L.size, hb, hA' b off hA (by omega), fun j u hu => ?_⟩
    rw [← cells_drop, List.getElem?_drop] at hu
    rw [Nat.add_assoc]
    exact hcc _ u hu

/-- Elements appended to a row of the call's own. -/
theorem run_app {P : Program} (t ty e : TypeId) (z : Value) (bytes : Nat) (hinfo : (P.info? e).map (fun i => (i.zero, i.size, i.bytes)) = some (some z, L.size, bytes)) (ht : P.underlying t = some (.slice e)) (hz : z.cells.size = L.size) (hsz : 0 < L.size) (hby : bytes ≤ 1000)
    (w : World) {base : Nat} {v u : Value} {xs ys : List α} {B : Nat} (hown : w.ownsRow base e L.size v xs.length (L.cells xs)) (hu : Lies L w B u ys) (h1 : ∀ y ∈ ys, ∀ u ∈ L.enc y, u.oneCell' = true) (hb : xs.length + ys.length ≤ 10000000) (hbase : base ≤ w.heap.size) :
    ∃ v' w', (Builtin.append_ #[t, t] ty #[v, u]).run P w = .ok v' w' ∧ w'.ownsRow base e L.size v' (xs ++ ys).length (L.cells (xs ++ ys)) ∧ w.grownBy w' v.ownBlock := by
  obtain ⟨i0, hi, hz0, hz1, hz2⟩ := info_parts hinfo
  obtain ⟨A, cap, rfl, h2, h3, h4⟩ := hu
  cases A with
  | none =>
    have hy : ys = [] := by
      rcases h4 with h4 | ⟨b, off, _, hA, _⟩
      · exact h4
      · cases hA
    subst hy
    refine ⟨v, w, ?_, by simpa using hown, World.grownBy.refl w _⟩
    rcases hown.2 with ⟨rfl, _⟩ | ⟨g, c, cur, rfl, _, _, hnc, _⟩
    · simp [Builtin.append_, run_underlying ht, sizeOf, typeInfo, hi, Builtin.lenOf, Builtin.firstCells]
    · simp [Builtin.append_, run_underlying ht, sizeOf, typeInfo, hi, Builtin.lenOf, Builtin.firstCells, hnc, storeCells]
  | some ad =>
    obtain ⟨v', w', hr, ho, hg, _⟩ := run_append_own (P := P) w base t ty e i0 z L.size bytes ht hi hz0 hz1 hz2 hz hsz v xs.length (L.cells xs) hown ad ys.length cap (L.cells ys) (cells_len L ys)
      (fun j x hx => by
        rcases h4 with rfl | ⟨b, off, _, hA, hc⟩
        · simp [Lay.cells] at hx
        · cases hA
          rw [Addr.add_lit]
          exact hc j x hx)
      (fun x hx => by
        obtain ⟨y, hy, hx⟩ := List.mem_flatMap.1 hx
        exact h1 y hy x hx) (by unfold maxLen; omega) (Nat.le_trans (Nat.mul_le_mul (show xs.length + ys.length ≤ 10000000 by omega) hby) (by decide)) hbase
    exact ⟨v', w', hr, by rw [List.length_append, cells_app]; exact ho, hg⟩

theorem wpList_app {P : Program} (e : TypeId) (z : Value) (bytes : Nat) {t : TypeId} (hinfo : (P.info? e).map (fun i => (i.zero, i.size, i.bytes)) = some (some z, L.size, bytes)) (ht : P.underlying t = some (.slice e)) (hz : z.cells.size = L.size) (hsz : 0 < L.size) (hby : bytes ≤ 1000)
    (w : World) {ops : Array Oper} {rest : List Oper} {o : Oper} {a : Act} {Q : Exit → Act → World → Prop} (hgd : o.guard = none) (s x : Operand)
    (hop : o.op = Op.call { callee := Callee.builtin Builtin.append, args := #[s, x], argTypes := #[t, t] }) (base : Nat) (v u : Value) (xs ys : List α) (B : Nat) (hs : a.eval s = v) (hown : w.ownsRow base e L.size v xs.length (L.cells xs))
    (hx : a.eval x = u) (hu : Lies L w B u ys) (h1 : ∀ y ∈ ys, ∀ u ∈ L.enc y, u.oneCell' = true) (hb : xs.length + ys.length ≤ 10000000) (hbase : base ≤ w.heap.size)
    (hK : ∀ v' w', w'.ownsRow base e L.size v' (xs ++ ys).length (L.cells (xs ++ ys)) → w.grownBy w' v.ownBlock → wpList P ops Q rest (a.put o.dst v') w') :
    wpList P ops Q (o :: rest) a w := by
  refine wpList_plain hgd fun K hK' => ?_
  obtain ⟨v', w', hr, h1, h2⟩ := run_app t o.type e z bytes hinfo ht hz hsz hby w hown hu h1 hb hbase
  unfold Oper.wp execOp
  simp only [hop, resolve, invoke, builtin, Sem.run_bind, Sem.run_pure, Result.andThen_ok, List.map_toArray, List.map_cons, List.map_nil, hs, hx, hr]
  exact hK' _ _ (hK v' w' h1 h2)

/-- A new row of the call's own. -/
theorem own_new (W : World) (e : TypeId) (cs : Array Value) (n : Nat) (base : Nat) (xs : List α) (hn : xs.length = n) (hcs : cs.toList = L.cells xs) (hb : base ≤ W.heap.size) (hm : n ≤ maxLen) : (W.alloc (.cells cs e)).ownsRow base e L.size (.slice (some ⟨W.heap.size, 0, none⟩) n n) n (L.cells xs) := by
  rw [← hcs]
  refine World.ownsRow_lit W cs n hb hm ?_
  rw [← Array.length_toList, hcs, cells_len, hn]
/-- What is owned, and lies in a block that is as it was, stays so. -/
theorem own_keep {base : Nat} {e : TypeId} {size n : Nat} {cs : List Value} (h : w.ownsRow base e size v n cs) (hk : ∀ b, v.ownBlock = some b → w'.heap[b]? = w.heap[b]?) : w'.ownsRow base e size v n cs := by
  refine ⟨h.1, ?_⟩
  rcases h.2 with h1 | ⟨g, cap, cur, rfl, hg, hh, r⟩
  · exact .inl h1
  · exact .inr ⟨g, cap, cur, rfl, hg, (hk g rfl).trans hh, r⟩
theorem own_below {base : Nat} {e : TypeId} {size n : Nat} {cs : List Value} (h : w.ownsRow base e size v n cs) (hb : Below w.heap.size w w') : w'.ownsRow base e size v n cs := own_keep h fun b hbk => hb.block b (h.lt b hbk).2
theorem own_form {base : Nat} {e : TypeId} {size n : Nat} {cs : List Value} (h : w.ownsRow base e size v n cs) : ∃ A cap, v = .slice A n cap ∧ n ≤ cap ∧ cap ≤ maxLen := by
  rcases h.2 with ⟨rfl, rfl⟩ | ⟨g, cap, cur, rfl, hg, hh, h1, h2, _⟩
  · exact ⟨none, 0, rfl, by simp, by simp⟩
  · exact ⟨_, cap, rfl, h1, h2⟩
end

theorem thn {w a b : World} (h : Below w.heap.size w a) (k : Below a.heap.size a b) : Below w.heap.size w b := h.trans (k.mono h.size)

/-! ### Buckets, and other elements of two numbers -/

abbrev Sp := Nat × Nat
def spL : Lay Sp := ⟨2, fun x => [.int .u64 x.1, .int .u64 x.2], fun _ => rfl⟩
theorem sp_one (ys : List Sp) : ∀ y ∈ ys, ∀ u ∈ spL.enc y, u.oneCell' = true := by
  intro y _ u hu
  simp only [spL, List.mem_cons, List.not_mem_nil, or_false] at hu
  rcases hu with rfl | rfl <;> rfl
theorem sp_at {w : World} {B : Nat} {A : Option Addr} {len cap : Nat} {xs : List Sp} (h : Lies spL w B (.slice A len cap) xs) (h0 : 0 < xs.length) : ∃ b off, A = some ⟨b, off, none⟩ ∧ b < B ∧ len = xs.length ∧ ∀ i (hi : i < xs.length), w.cell? ⟨b, off + i * 2, none⟩ = some (.int .u64 xs[i].1) ∧ w.cell? ⟨b, off + i * 2 + 1, none⟩ = some (.int .u64 xs[i].2) := by
  obtain ⟨b, off, hA, hb, hl, hc⟩ := h.addr h0
  refine ⟨b, off, hA, hb, hl, fun i hi => ⟨?_, ?_⟩⟩
  · exact hc i hi 0 _ rfl
  · exact hc i hi 1 _ rfl

/-- A slice of elements of two numbers that came in. -/
theorem sp_of_row {w : World} {A : Option Addr} {len cap : Nat} {z : Nat → Nat → Int} (h : Op.FlatRow [.u64, .u64] w A len cap z) :
    ∃ xs : List Sp, xs.length = len ∧ Lies spL w w.heap.size (.slice A len cap) xs ∧ ∀ x ∈ xs, x.1 < 18446744073709551616 ∧ x.2 < 18446744073709551616 := by
  obtain ⟨h1, h2, h3⟩ := h
  have hl : ((List.range len).map fun i => ((z i 0).toNat, (z i 1).toNat)).length = len := by simp
  rcases h3 with rfl | ⟨b, off, rfl, hb, hc⟩
  · exact ⟨[], rfl, Lies.nil A cap h2, by simp⟩
  have key : ∀ i, i < len → 0 ≤ z i 0 ∧ z i 0 < 18446744073709551616 ∧ 0 ≤ z i 1 ∧ z i 1 < 18446744073709551616 := by
    intro i hi
    obtain ⟨a0, a1⟩ := bounds_u64 (hc i hi 0 .u64 rfl).2
    obtain ⟨b0, b1⟩ := bounds_u64 (hc i hi 1 .u64 rfl).2
    omega
  refine ⟨(List.range len).map fun i => ((z i 0).toNat, (z i 1).toNat), hl, ⟨_, cap, by rw [hl], by rw [hl]; exact h1, h2, .inr ⟨b, off, hb, rfl, fun j u hu => ?_⟩⟩, fun x hx => ?_⟩
  · have hj : j < len * 2 := by
      have := (List.getElem?_eq_some_iff.1 hu).1
      rw [cells_len, hl] at this
      exact this
    obtain ⟨i, k, hk, rfl⟩ : ∃ i k, k < 2 ∧ j = i * 2 + k := ⟨j / 2, j % 2, by omega, by omega⟩
    have e := cells_at spL ((List.range len).map fun i => ((z i 0).toNat, (z i 1).toNat)) i k (by rw [hl]; omega) hk
    rw [show spL.size = 2 from rfl] at e
    rw [e] at hu
    simp only [List.getElem_map, List.getElem_range, spL] at hu
    have hk4 := key i (by omega)
    rcases k with _ | _ | k
    · have h4 := (hc i (by omega) 0 .u64 rfl).1
      simp only [List.length_cons, List.length_nil] at h4
      rw [h4, ← hu]
      simp
      omega
    · have h4 := (hc i (by omega) 1 .u64 rfl).1
      simp only [List.length_cons, List.length_nil] at h4
      rw [h4, ← hu]
      simp
      omega
    · omega
  · obtain ⟨i, hi, rfl⟩ := List.mem_map.1 hx
    have := key i (List.mem_range.1 hi)
    constructor <;> simp only <;> omega

end Go.Proofs.Rw
