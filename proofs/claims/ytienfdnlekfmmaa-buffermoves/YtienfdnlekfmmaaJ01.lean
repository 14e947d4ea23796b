/- Arguments that are made of integers alone (structs and arrays, and slices of these), opened to their cells. · Elements that lie one behind the other in memory, each of so many cells: a slice that holds a list, a row of the call's own, append. · Append onto a row of the call's own: where the new row lies; what other rows keep. · Slices of slices: levels of buckets in memory, and a row of the call's own to which levels are appended. -/
import Derived.OpenShut
import Derived.Deep.Slices
import Derived.WideShapes
import Derived.Laws.OwnMore
import Derived.Below
import Derived.OwnWalk
import Derived.Lib.Hide
import Derived.OwnWalkIn
section
/- Arguments that are made of integers alone (structs and arrays, and slices of these), opened to their cells. -/
namespace Go.Proofs.Op
open Go Go.RowKit Go.ChangeShapes Go.WideShapes Go.Deep

/-- The kinds of a type's cells, where they are integers. -/
def kindsF (P : Program) (K : TypeId → Option (List IntKind)) (size : Nat) : List Field → Nat → Option (List IntKind)
  | [], off => if size = off then some [] else none
  | f :: fs, off => match K f.type with
    | some ks => if f.offset = off ∧ P.cellsOf f.type = ks.length then (kindsF P K size fs (off + ks.length)).map (ks ++ ·) else none
    | none => none
def kinds (P : Program) : Nat → TypeId → Option (List IntKind)
  | 0, _ => none
  | f + 1, t => match P.underlying t with
    | some (.int k) => some [k]
    | some (.array n e) => match kinds P f e with
      | some ks => if P.cellsOf e = ks.length ∧ P.cellsOf t = n * ks.length then some (List.replicate n ks).flatten else none
      | none => none
    | some (.struct fs) => kindsF P (kinds P f) (P.cellsOf t) fs.toList 0
    | _ => none

/-- Cells that are integers of these kinds, each fitting. -/
def Fits : List IntKind → List Value → Prop
  | [], [] => True
  | k :: ks, v :: vs => (∃ n, v = .int k n ∧ (Lit.int k n).wf = true) ∧ Fits ks vs
  | _, _ => False

theorem Fits.app {ks ks' : List IntKind} {vs vs' : List Value} (h : Fits ks vs) (h' : Fits ks' vs') : Fits (ks ++ ks') (vs ++ vs') := by
  induction ks generalizing vs with
  | nil => cases vs with
    | nil => exact h'
    | cons v vs => exact h.elim
  | cons k ks ih => cases vs with
    | nil => exact h.elim
    | cons v vs => exact ⟨h.1, ih h.2⟩
theorem Fits.at {ks : List IntKind} {vs : List Value} (h : Fits ks vs) (j : Nat) (k : IntKind) (hj : ks[j]? = some k) : ∃ n, vs[j]? = some (.int k n) ∧ (Lit.int k n).wf = true := by
  induction ks generalizing vs j with
  | nil => simp at hj
  | cons k' ks ih => cases vs with
    | nil => exact h.elim
    | cons v vs =>
      cases j with
      | zero =>
        simp only [List.getElem?_cons_zero, Option.some.injEq] at hj
        subst hj
        obtain ⟨n, rfl, hw⟩ := h.1
        exact ⟨n, rfl, hw⟩
      | succ j => exact ih h.2 j hj
theorem Fits.len {ks : List IntKind} {vs : List Value} (h : Fits ks vs) : vs.length = ks.length := by
  induction ks generalizing vs with
  | nil => cases vs with
    | nil => rfl
    | cons v vs => exact h.elim
  | cons k ks ih => cases vs with
    | nil => exact h.elim
    | cons v vs => simp [ih h.2]

section
variable {H : Type} {enc : TypeId × Value → H} {P : Program} {w : World} {base : Nat} {spare : Nat → Bool} {held : Bool}

theorem fits_fields {K : TypeId → Option (List IntKind)} {cs : List Value} {n : Nat} {xs : List (DataW H × List MemPlace)} {fs : Array Field}
    (hK : ∀ t ks cs x, K t = some ks → DataW.trod enc P w base spare held n t cs = some x → Fits ks cs) (hlen : xs.length = fs.size)
    (hf : ∀ (i : Nat) (f : Field), fs[i]? = some f → DataW.trod enc P w base spare held n f.type ((cs.drop f.offset).take (P.cellsOf f.type)) = xs[i]?) :
    ∀ (l : List Field) (i off : Nat) (ks : List IntKind), (∀ j, l[j]? = fs[i + j]?) → kindsF P K cs.length l off = some ks → Fits ks (cs.drop off) := by
  intro l
  induction l with
  | nil =>
    intro i off ks _ h
    simp only [kindsF] at h
    split at h
    · rename_i e
      cases h
      rw [List.drop_of_length_le (by omega)]
      trivial
    · cases h
  | cons f l ih =>
    intro i off ks hl h
    have h0 : fs[i]? = some f := by have := hl 0; simpa using this.symm
    have hi : i < xs.length := by rw [hlen]; exact (Array.getElem?_eq_some_iff.1 h0).1
    simp only [kindsF] at h
    split at h
    · rename_i ks1 hk1
      split at h
      · rename_i hc
        obtain ⟨ho, hC⟩ := hc
        rw [Option.map_eq_some_iff] at h
        obtain ⟨ks2, h2, rfl⟩ := h
        have h1 := hf i f h0
        rw [ho, hC, List.getElem?_eq_getElem hi] at h1
        have f1 := hK _ _ _ _ hk1 h1
        have f2 := ih (i + 1) (off + ks1.length) ks2 (fun j => by have := hl (j + 1); simpa [Nat.add_assoc, Nat.add_comm 1 j] using this) h2
        have : cs.drop off = (cs.drop off).take ks1.length ++ cs.drop (off + ks1.length) := by rw [← List.drop_drop, List.take_append_drop]
        rw [this]
        exact f1.app f2
      · cases h
    · cases h

/-- What is read of a type of integers is integers. -/
theorem fits_of_trod : ∀ (f : Nat) (t : TypeId) (ks : List IntKind) (fuel : Nat) (cs : List Value) (x : DataW H × List MemPlace), kinds P f t = some ks → DataW.trod enc P w base spare held fuel t cs = some x → Fits ks cs
  | 0, _, _, _, _, _, h, _ => by cases h
  | f + 1, t, ks, fuel, cs, x, h, hx => by
    simp only [kinds] at h
    split at h
    · rename_i k ht
      cases h
      obtain ⟨n, rfl, _, hw⟩ := DataW.trod_int ht hx
      exact ⟨⟨n, rfl, hw⟩, trivial⟩
    · rename_i n e ht
      split at h
      · rename_i ks1 hk1
        split at h
        · rename_i hc
          obtain ⟨hC, hT⟩ := hc
          cases h
          obtain ⟨xs, m, _, _, hlen, hxl, hf⟩ := DataW.trod_array ht hx
          have key : ∀ j, j ≤ n → Fits (List.replicate j ks1).flatten (cs.drop ((n - j) * ks1.length)) := by
            intro j
            induction j with
            | zero =>
              intro _
              rw [List.drop_of_length_le (by rw [hlen, hT]; exact Nat.le_refl _)]
              trivial
            | succ j ih =>
              intro hj
              have h1 := hf (n - (j + 1)) (by omega)
              rw [hC, List.getElem?_eq_getElem (by omega)] at h1
              have f1 := fits_of_trod f e ks1 m _ _ hk1 h1
              have f2 := ih (by omega)
              rw [List.replicate_succ, List.flatten_cons]
              have e1 : (n - j) * ks1.length = (n - (j + 1)) * ks1.length + ks1.length := by rw [← Nat.succ_mul]; congr 1; omega
              have : cs.drop ((n - (j + 1)) * ks1.length) = (cs.drop ((n - (j + 1)) * ks1.length)).take ks1.length ++ cs.drop ((n - j) * ks1.length) := by rw [e1, ← List.drop_drop, List.take_append_drop]
              rw [this]
              exact f1.app f2
          have := key n (Nat.le_refl _)
          simpa using this
        · cases h
      · cases h
    · rename_i fs ht
      obtain ⟨xs, n, _, _, hlen, hxl, hf⟩ := DataW.trod_struct ht hx
      rw [← hlen] at h
      have := fits_fields (K := kinds P f) (fun t ks cs x hk hx => fits_of_trod f t ks n cs x hk hx) hxl hf fs.toList 0 0 ks (fun j => by simp) h
      simpa using this
    · cases h

/-- A struct or an array of integers, by value. -/
theorem open_flat {f : Nat} {r : Reach} {b0 : Nat} {t : TypeId} {ks : List IntKind} {v : Value} {d : DataW H} {p : List MemPlace} (hk : kinds P f t = some ks)
    (ha : (match P.underlying t with | some (.struct _) => true | some (.array _ _) => true | _ => false) = true) (hv : Value.okWide P w r b0 t v) (h : DataW.Trod enc P w base spare held t v d p) : ∃ cs : List Value, v = .agg cs.toArray ∧ Fits ks cs := by
  obtain ⟨fuel, hf⟩ := h
  have := fits_of_trod f t ks fuel _ _ hk hf
  split at ha
  · rename_i fs ht
    obtain ⟨cs, rfl, _⟩ := okWide_struct ht hv
    exact ⟨cs.toList, by simp, by simpa [Value.cells] using this⟩
  · rename_i n e ht
    simp only [Value.okWide, ht] at hv
    obtain ⟨cs, rfl, _⟩ := hv
    exact ⟨cs.toList, by simp, by simpa [Value.cells] using this⟩
  · cases ha

/-- A slice of such: each cell of each element. -/
def FlatRow (ks : List IntKind) (w : World) (a : Option Addr) (len cap : Nat) (z : Nat → Nat → Int) : Prop :=
  len ≤ cap ∧ cap ≤ maxLen ∧ (len = 0 ∨ ∃ b off, a = some ⟨b, off, none⟩ ∧ b < w.heap.size ∧ ∀ i, i < len → ∀ j k, ks[j]? = some k → w.cell? ⟨b, off + (i * ks.length + j), none⟩ = some (.int k (z i j)) ∧ (Lit.int k (z i j)).wf = true)

theorem open_flats {f : Nat} {t e : TypeId} {ks : List IntKind} {a : Option Addr} {len cap : Nat} {d : DataW H} {p : List MemPlace} (ht : P.underlying t = some (.slice e)) (hk : kinds P f e = some ks) (hC : P.cellsOf e = ks.length) (h0 : 0 < ks.length)
    (h : DataW.Trod enc P w base spare held t (.slice a len cap) d p) : ∃ z, FlatRow ks w a len cap z := by
  obtain ⟨fuel, hf⟩ := h
  rcases open_slice ht hf with ⟨hcs, _⟩ | ⟨a', len', cap', m, n, D, Pl, hcs, _, hl, hm, hmm, _, hi⟩
  · simp only [Value.cells, List.cons.injEq, Value.slice.injEq, and_true] at hcs
    obtain ⟨rfl, rfl, rfl⟩ := hcs
    exact ⟨fun _ _ => 0, Nat.le_refl _, by simp, .inl rfl⟩
  · simp only [Value.cells, List.cons.injEq, Value.slice.injEq, and_true] at hcs
    obtain ⟨rfl, rfl, rfl⟩ := hcs
    rcases Nat.eq_zero_or_pos len with h00 | hpos
    · exact ⟨fun _ _ => 0, hl, hm, .inl h00⟩
    have hlm : len ≤ m := by rw [hmm]; split <;> omega
    have each : ∀ i, i < len → ∀ j k, ks[j]? = some k → ∃ n, w.cell? ((a'.add (i * ks.length)).add j) = some (.int k n) ∧ (Lit.int k n).wf = true := by
      intro i hil j k hj
      obtain ⟨cs', hc, ht'⟩ := hi i (by omega)
      rw [hC] at hc
      have hfit := fits_of_trod f e ks n cs' _ hk ht'
      obtain ⟨q, hq, hw⟩ := hfit.at j k hj
      have hjl : j < ks.length := (List.getElem?_eq_some_iff.1 hj).1
      have := (World.cells?_some hc).2.2 j hjl
      exact ⟨q, this.trans hq, hw⟩
    obtain ⟨b, off, spot⟩ := a'
    obtain ⟨k0, hk0⟩ : ∃ k, ks[0]? = some k := ⟨_, List.getElem?_eq_getElem h0⟩
    obtain ⟨n0, hc0, _⟩ := each 0 hpos 0 k0 hk0
    have hs : spot = none := by simpa [Addr.add] using World.cell?_spot hc0
    subst hs
    have hadd : ∀ i j, ((⟨b, off, none⟩ : Addr).add i).add j = ⟨b, off + (i + j), none⟩ := by
      intro i j
      rw [Go.WideShapes.add_plain, Go.WideShapes.add_plain, Nat.add_assoc]
    have hbl : b < w.heap.size := by
      rw [hadd] at hc0
      exact World.block_lt_of_cell? w _ hc0
    refine ⟨fun i j => match w.cell? ⟨b, off + (i * ks.length + j), none⟩ with | some (.int _ n) => n | _ => 0, hl, hm, .inr ⟨b, off, rfl, hbl, fun i hil j k hj => ?_⟩⟩
    obtain ⟨q, hq, hw⟩ := each i hil j k hj
    rw [hadd] at hq
    dsimp only
    rw [hq]
    exact ⟨rfl, hw⟩
end

end Go.Proofs.Op
end
section
/- Elements that lie one behind the other in memory, each of so many cells: a slice that holds a list, a row of the call's own, append. -/
namespace Go.Proofs.Rw
open Go Go.RowKit

/-- How an element lies in memory. -/
structure Lay (α : Type) where
  size : Nat
  enc : α → List Value
  len : ∀ a, (enc a).length = size

section
variable {α : Type} (L : Lay α)

def Lay.cells (xs : List α) : List Value := xs.flatMap L.enc
theorem cells_nil : L.cells [] = [] := rfl
theorem cells_cons (x : α) (xs : List α) : L.cells (x :: xs) = L.enc x ++ L.cells xs := rfl
theorem cells_app (xs ys : List α) : L.cells (xs ++ ys) = L.cells xs ++ L.cells ys := by simp [Lay.cells]
theorem cells_one (x : α) : L.cells [x] = L.enc x := by simp [Lay.cells]
theorem cells_len (xs : List α) : (L.cells xs).length = xs.length * L.size := by
  induction xs with
  | nil => simp [Lay.cells]
  | cons x xs ih => rw [cells_cons, List.length_append, L.len, ih, List.length_cons, Nat.add_mul]; omega
theorem cells_at (xs : List α) (i j : Nat) (hi : i < xs.length) (hj : j < L.size) : (L.cells xs)[i * L.size + j]? = (L.enc xs[i])[j]? := by
  induction xs generalizing i with
  | nil => simp at hi
  | cons x xs ih =>
    rw [cells_cons]
    cases i with
    | zero => rw [Nat.zero_mul, Nat.zero_add, List.getElem?_append_left (by rw [L.len]; exact hj)]; rfl
    | succ i =>
      rw [List.getElem?_append_right (by rw [L.len, Nat.add_mul]; omega), L.len, show (i + 1) * L.size + j - L.size = i * L.size + j by rw [Nat.add_mul]; omega]
      exact ih i (by simpa using hi)
theorem cells_take (xs : List α) (k : Nat) : (L.cells xs).take (k * L.size) = L.cells (xs.take k) := by
  rcases Nat.lt_or_ge xs.length k with h | h
  · rw [List.take_of_length_le (by rw [cells_len]; exact Nat.mul_le_mul_right _ (by omega)), List.take_of_length_le (by omega)]
  · have e := cells_app L (xs.take k) (xs.drop k)
    rw [List.take_append_drop] at e
    have hl : (L.cells (xs.take k)).length = k * L.size := by rw [cells_len, List.length_take, Nat.min_eq_left h]
    rw [e, ← hl, List.take_left]
theorem cells_drop (xs : List α) (k : Nat) : (L.cells xs).drop (k * L.size) = L.cells (xs.drop k) := by
  rcases Nat.lt_or_ge xs.length k with h | h
  · rw [List.drop_of_length_le (by rw [cells_len]; exact Nat.mul_le_mul_right _ (by omega)), List.drop_of_length_le (by omega)]; rfl
  · have e := cells_app L (xs.take k) (xs.drop k)
    rw [List.take_append_drop] at e
    have hl : (L.cells (xs.take k)).length = k * L.size := by rw [cells_len, List.length_take, Nat.min_eq_left h]
    rw [e, ← hl, List.drop_left]

/-- The slice value v holds just the elements xs, and lies below block B. -/
def Lies (w : World) (B : Nat) (v : Value) (xs : List α) : Prop :=
  ∃ A cap, v = .slice A xs.length cap ∧ xs.length ≤ cap ∧ cap ≤ maxLen ∧ (xs = [] ∨ ∃ b off, b < B ∧ A = some ⟨b, off, none⟩ ∧ ∀ j u, (L.cells xs)[j]? = some u → w.cell? ⟨b, off + j, none⟩ = some u)

variable {L} {w w' : World} {B B' : Nat} {v : Value} {xs ys : List α}

theorem Lies.keep (h : Lies L w B v xs) (hk : ∀ b, b < B → w'.heap[b]? = w.heap[b]?) : Lies L w' B v xs := by
  obtain ⟨A, cap, hv, h1, h2, h3⟩ := h
  refine ⟨A, cap, hv, h1, h2, ?_⟩
  rcases h3 with h3 | ⟨b, off, hb, hA, hc⟩
  · exact .inl h3
  · exact .inr ⟨b, off, hb, hA, fun j u hu => (World.cell?_of_block (a := ⟨b, off + j, none⟩) (hk b hb)).trans (hc j u hu)⟩
theorem Lies.below (h : Lies L w B v xs) (hb : Below B w w') : Lies L w' B v xs := h.keep hb.block
theorem Lies.mono (h : Lies L w B v xs) (hB : B ≤ B') : Lies L w B' v xs := by
  obtain ⟨A, cap, hv, h1, h2, h3⟩ := h
  refine ⟨A, cap, hv, h1, h2, h3.imp id ?_⟩
  rintro ⟨b, off, hb, r⟩
  exact ⟨b, off, by omega, r⟩
theorem Lies.grow (h : Lies L w w.heap.size v xs) (hb : Below w.heap.size w w') : Lies L w' w'.heap.size v xs := (h.below hb).mono hb.size
theorem Lies.alloc (h : Lies L w B v xs) (hB : B ≤ w.heap.size) (o : Obj) : Lies L (w.alloc o) B v xs := h.keep fun b hb => Below.heap_alloc w o b (by omega)
theorem Lies.nil (A : Option Addr) (cap : Nat) (h : cap ≤ maxLen) : Lies L w B (.slice A 0 cap) [] := ⟨A, cap, rfl, by simp, h, .inl rfl⟩
theorem Lies.form (h : Lies L w B v xs) : ∃ A cap, v = .slice A xs.length cap ∧ xs.length ≤ cap ∧ cap ≤ maxLen ∧ Lies L w B (.slice A xs.length cap) xs := by
  obtain ⟨A, cap, hv, h1, h2, h3⟩ := h
  exact ⟨A, cap, hv, h1, h2, A, cap, rfl, h1, h2, h3⟩
theorem Lies.addr {A : Option Addr} {len cap : Nat} (h : Lies L w B (.slice A len cap) xs) (h0 : 0 < xs.length) : ∃ b off, A = some ⟨b, off, none⟩ ∧ b < B ∧ len = xs.length ∧ ∀ i (hi : i < xs.length) j u, (L.enc xs[i])[j]? = some u → w.cell? ⟨b, off + (i * L.size + j), none⟩ = some u := by
  obtain ⟨A', cap', hv, h1, h2, h3⟩ := h
  injection hv with e1 e2 e3
  subst e1
  rcases h3 with rfl | ⟨b, off, hb, hA, hc⟩
  · simp at h0
  · refine ⟨b, off, hA, hb, e2, fun i hi j u hu => hc _ _ ?_⟩
    rw [cells_at L xs i j hi ?_]
    · exact hu
    · rw [← L.len xs[i]]; exact (List.getElem?_eq_some_iff.1 hu).1

theorem Lies.of_own {base : Nat} {e : TypeId} (h : w.ownsRow base e L.size v xs.length (L.cells xs)) : Lies L w w.heap.size v xs := by
  rcases h.2 with ⟨rfl, h0⟩ | ⟨g, cap, cur, rfl, hb, hg, h1, h2, h3, h4⟩
  · have : xs = [] := List.eq_nil_of_length_eq_zero h0
    subst this
    exact ⟨none, 0, rfl, by simp, by simp, .inl rfl⟩
  · refine ⟨_, cap, rfl, h1, h2, .inr ⟨g, 0, (Array.getElem?_eq_some_iff.1 hg).1, rfl, fun j u hu => ?_⟩⟩
    have hj : j < xs.length * L.size := by rw [← cells_len]; exact (List.getElem?_eq_some_iff.1 hu).1
    rw [Nat.zero_add, h.cellAt j hj]
    exact hu

theorem Lies.take {A : Option Addr} {cap : Nat} (h : Lies L w B (.slice A xs.length cap) xs) (k c : Nat) (hk : k ≤ xs.length) (hc : k ≤ c) (hm : c ≤ maxLen) : Lies L w B (.slice A k c) (xs.take k) := by
  obtain ⟨A', cap', hv, h1, h2, h3⟩ := h
  injection hv with e1 e2 e3
  subst e1; subst e3
  have hl : (xs.take k).length = k := by simp; omega
  refine ⟨A, c, by rw [hl], by omega, hm, ?_⟩
  rcases h3 with rfl | ⟨b, off, hb, hA, hcc⟩
  · exact .inl (by simp)
  · refine .inr ⟨b, off, hb, hA, fun j u hu => hcc j u ?_⟩
    rw [← cells_take, List.getElem?_take] at hu
    split at hu
    · exact hu
    · cases hu
theorem Lies.drop {A : Option Addr} {cap : Nat} (h : Lies L w B (.slice A xs.length cap) xs) (k : Nat) (hk : k ≤ xs.length) (A' : Option Addr) (hA' : ∀ b off, A = some ⟨b, off, none⟩ → k < cap → A' = some ⟨b, off + k * L.size, none⟩) : Lies L w B (.slice A' (xs.length - k) (cap - k)) (xs.drop k) := by
  obtain ⟨A0, cap', hv, h1, h2, h3⟩ := h
  injection hv with e1 e2 e3
  subst e1; subst e3
  have hl : (xs.drop k).length = xs.length - k := by simp
  refine ⟨A', cap - k, by rw [hl], by omega, by omega, ?_⟩
  rcases Nat.eq_or_lt_of_le hk with e | hlt
  · exact .inl (List.drop_of_length_le (by omega))
  rcases h3 with rfl | ⟨b, off, hb, hA, hcc⟩
  · exact .inl (by simp)
  · refine .inr ⟨b, off + k * L.size, hb, hA' b off hA (by omega), fun j u hu => ?_⟩
    rw [← cells_drop, List.getElem?_drop] at hu
    rw [Nat.add_assoc]
    exact hcc _ u hu

/-- Elements appended to a row of the call's own. -/
theorem run_app {P : Program} (t ty e : TypeId) (z : Value) (bytes : Nat) (hinfo : (P.info? e).map (fun i => (i.zero, i.size, i.bytes)) = some (some z, L.size, bytes)) (ht : P.underlying t = some (.slice e)) (hz : z.cells.size = L.size) (hsz : 0 < L.size) (hby : bytes ≤ 1000)
    (w : World) {base : Nat} {v u : Value} {xs ys : List α} {B : Nat} (hown : w.ownsRow base e L.size v xs.length (L.cells xs)) (hu : Lies L w B u ys) (h1 : ∀ y ∈ ys, ∀ u ∈ L.enc y, u.oneCell' = true) (hb : xs.length + ys.length ≤ 10000000) (hbase : base ≤ w.heap.size) :
    ∃ v' w', (Builtin.append_ #[t, t] ty #[v, u]).run P w = .ok v' w' ∧ w'.ownsRow base e L.size v' (xs ++ ys).length (L.cells (xs ++ ys)) ∧ w.grownBy w' v.ownBlock := by
  obtain ⟨i0, hi, hz0, hz1, hz2⟩ := info_parts hinfo
  obtain ⟨A, cap, rfl, h2, h3, h4⟩ := hu
  cases A with
  | none =>
    have hy : ys = [] := by
      rcases h4 with h4 | ⟨b, off, _, hA, _⟩
      · exact h4
      · cases hA
    subst hy
    refine ⟨v, w, ?_, by simpa using hown, World.grownBy.refl w _⟩
    rcases hown.2 with ⟨rfl, _⟩ | ⟨g, c, cur, rfl, _, _, hnc, _⟩
    · simp [Builtin.append_, run_underlying ht, sizeOf, typeInfo, hi, Builtin.lenOf, Builtin.firstCells]
    · simp [Builtin.append_, run_underlying ht, sizeOf, typeInfo, hi, Builtin.lenOf, Builtin.firstCells, hnc, storeCells]
  | some ad =>
    obtain ⟨v', w', hr, ho, hg, _⟩ := run_append_own (P := P) w base t ty e i0 z L.size bytes ht hi hz0 hz1 hz2 hz hsz v xs.length (L.cells xs) hown ad ys.length cap (L.cells ys) (cells_len L ys)
      (fun j x hx => by
        rcases h4 with rfl | ⟨b, off, _, hA, hc⟩
        · simp [Lay.cells] at hx
        · cases hA
          rw [Addr.add_lit]
          exact hc j x hx)
      (fun x hx => by
        obtain ⟨y, hy, hx⟩ := List.mem_flatMap.1 hx
        exact h1 y hy x hx) (by unfold maxLen; omega) (Nat.le_trans (Nat.mul_le_mul (show xs.length + ys.length ≤ 10000000 by omega) hby) (by decide)) hbase
    exact ⟨v', w', hr, by rw [List.length_append, cells_app]; exact ho, hg⟩

theorem wpList_app {P : Program} (e : TypeId) (z : Value) (bytes : Nat) {t : TypeId} (hinfo : (P.info? e).map (fun i => (i.zero, i.size, i.bytes)) = some (some z, L.size, bytes)) (ht : P.underlying t = some (.slice e)) (hz : z.cells.size = L.size) (hsz : 0 < L.size) (hby : bytes ≤ 1000)
    (w : World) {ops : Array Oper} {rest : List Oper} {o : Oper} {a : Act} {Q : Exit → Act → World → Prop} (hgd : o.guard = none) (s x : Operand)
    (hop : o.op = Op.call { callee := Callee.builtin Builtin.append, args := #[s, x], argTypes := #[t, t] }) (base : Nat) (v u : Value) (xs ys : List α) (B : Nat) (hs : a.eval s = v) (hown : w.ownsRow base e L.size v xs.length (L.cells xs))
    (hx : a.eval x = u) (hu : Lies L w B u ys) (h1 : ∀ y ∈ ys, ∀ u ∈ L.enc y, u.oneCell' = true) (hb : xs.length + ys.length ≤ 10000000) (hbase : base ≤ w.heap.size)
    (hK : ∀ v' w', w'.ownsRow base e L.size v' (xs ++ ys).length (L.cells (xs ++ ys)) → w.grownBy w' v.ownBlock → wpList P ops Q rest (a.put o.dst v') w') :
    wpList P ops Q (o :: rest) a w := by
  refine wpList_plain hgd fun K hK' => ?_
  obtain ⟨v', w', hr, h1, h2⟩ := run_app t o.type e z bytes hinfo ht hz hsz hby w hown hu h1 hb hbase
  unfold Oper.wp execOp
  simp only [hop, resolve, invoke, builtin, Sem.run_bind, Sem.run_pure, Result.andThen_ok, List.map_toArray, List.map_cons, List.map_nil, hs, hx, hr]
  exact hK' _ _ (hK v' w' h1 h2)

/-- A new row of the call's own. -/
theorem own_new (W : World) (e : TypeId) (cs : Array Value) (n : Nat) (base : Nat) (xs : List α) (hn : xs.length = n) (hcs : cs.toList = L.cells xs) (hb : base ≤ W.heap.size) (hm : n ≤ maxLen) : (W.alloc (.cells cs e)).ownsRow base e L.size (.slice (some ⟨W.heap.size, 0, none⟩) n n) n (L.cells xs) := by
  rw [← hcs]
  refine World.ownsRow_lit W cs n hb hm ?_
  rw [← Array.length_toList, hcs, cells_len, hn]
/-- What is owned, and lies in a block that is as it was, stays so. -/
theorem own_keep {base : Nat} {e : TypeId} {size n : Nat} {cs : List Value} (h : w.ownsRow base e size v n cs) (hk : ∀ b, v.ownBlock = some b → w'.heap[b]? = w.heap[b]?) : w'.ownsRow base e size v n cs := by
  refine ⟨h.1, ?_⟩
  rcases h.2 with h1 | ⟨g, cap, cur, rfl, hg, hh, r⟩
  · exact .inl h1
  · exact .inr ⟨g, cap, cur, rfl, hg, (hk g rfl).trans hh, r⟩
theorem own_below {base : Nat} {e : TypeId} {size n : Nat} {cs : List Value} (h : w.ownsRow base e size v n cs) (hb : Below w.heap.size w w') : w'.ownsRow base e size v n cs := own_keep h fun b hbk => hb.block b (h.lt b hbk).2
theorem own_form {base : Nat} {e : TypeId} {size n : Nat} {cs : List Value} (h : w.ownsRow base e size v n cs) : ∃ A cap, v = .slice A n cap ∧ n ≤ cap ∧ cap ≤ maxLen := by
  rcases h.2 with ⟨rfl, rfl⟩ | ⟨g, cap, cur, rfl, hg, hh, h1, h2, _⟩
  · exact ⟨none, 0, rfl, by simp, by simp⟩
  · exact ⟨_, cap, rfl, h1, h2⟩
end

theorem thn {w a b : World} (h : Below w.heap.size w a) (k : Below a.heap.size a b) : Below w.heap.size w b := h.trans (k.mono h.size)

/-! ### Buckets, and other elements of two numbers -/

abbrev Sp := Nat × Nat
def spL : Lay Sp := ⟨2, fun x => [.int .u64 x.1, .int .u64 x.2], fun _ => rfl⟩
theorem sp_one (ys : List Sp) : ∀ y ∈ ys, ∀ u ∈ spL.enc y, u.oneCell' = true := by
  intro y _ u hu
  simp only [spL, List.mem_cons, List.not_mem_nil, or_false] at hu
  rcases hu with rfl | rfl <;> rfl
theorem sp_at {w : World} {B : Nat} {A : Option Addr} {len cap : Nat} {xs : List Sp} (h : Lies spL w B (.slice A len cap) xs) (h0 : 0 < xs.length) : ∃ b off, A = some ⟨b, off, none⟩ ∧ b < B ∧ len = xs.length ∧ ∀ i (hi : i < xs.length), w.cell? ⟨b, off + i * 2, none⟩ = some (.int .u64 xs[i].1) ∧ w.cell? ⟨b, off + i * 2 + 1, none⟩ = some (.int .u64 xs[i].2) := by
  obtain ⟨b, off, hA, hb, hl, hc⟩ := h.addr h0
  refine ⟨b, off, hA, hb, hl, fun i hi => ⟨?_, ?_⟩⟩
  · exact hc i hi 0 _ rfl
  · exact hc i hi 1 _ rfl

/-- A slice of elements of two numbers that came in. -/
theorem sp_of_row {w : World} {A : Option Addr} {len cap : Nat} {z : Nat → Nat → Int} (h : Op.FlatRow [.u64, .u64] w A len cap z) :
    ∃ xs : List Sp, xs.length = len ∧ Lies spL w w.heap.size (.slice A len cap) xs ∧ ∀ x ∈ xs, x.1 < 18446744073709551616 ∧ x.2 < 18446744073709551616 := by
  obtain ⟨h1, h2, h3⟩ := h
  have hl : ((List.range len).map fun i => ((z i 0).toNat, (z i 1).toNat)).length = len := by simp
  rcases h3 with rfl | ⟨b, off, rfl, hb, hc⟩
  · exact ⟨[], rfl, Lies.nil A cap h2, by simp⟩
  have key : ∀ i, i < len → 0 ≤ z i 0 ∧ z i 0 < 18446744073709551616 ∧ 0 ≤ z i 1 ∧ z i 1 < 18446744073709551616 := by
    intro i hi
    obtain ⟨a0, a1⟩ := bounds_u64 (hc i hi 0 .u64 rfl).2
    obtain ⟨b0, b1⟩ := bounds_u64 (hc i hi 1 .u64 rfl).2
    omega
  refine ⟨(List.range len).map fun i => ((z i 0).toNat, (z i 1).toNat), hl, ⟨_, cap, by rw [hl], by rw [hl]; exact h1, h2, .inr ⟨b, off, hb, rfl, fun j u hu => ?_⟩⟩, fun x hx => ?_⟩
  · have hj : j < len * 2 := by
      have := (List.getElem?_eq_some_iff.1 hu).1
      rw [cells_len, hl] at this
      exact this
    obtain ⟨i, k, hk, rfl⟩ : ∃ i k, k < 2 ∧ j = i * 2 + k := ⟨j / 2, j % 2, by omega, by omega⟩
    have e := cells_at spL ((List.range len).map fun i => ((z i 0).toNat, (z i 1).toNat)) i k (by rw [hl]; omega) hk
    rw [show spL.size = 2 from rfl] at e
    rw [e] at hu
    simp only [List.getElem_map, List.getElem_range, spL] at hu
    have hk4 := key i (by omega)
    rcases k with _ | _ | k
    · have h4 := (hc i (by omega) 0 .u64 rfl).1
      simp only [List.length_cons, List.length_nil] at h4
      rw [h4, ← hu]
      simp
      omega
    · have h4 := (hc i (by omega) 1 .u64 rfl).1
      simp only [List.length_cons, List.length_nil] at h4
      rw [h4, ← hu]
      simp
      omega
    · omega
  · obtain ⟨i, hi, rfl⟩ := List.mem_map.1 hx
    have := key i (List.mem_range.1 hi)
    constructor <;> simp only <;> omega

end Go.Proofs.Rw
end
section
/- Append onto a row of the call's own: where the new row lies; what other rows keep. -/
namespace Go.Proofs.Rw
open Go Go.RowKit

section
variable {α : Type} {L : Lay α}

theorem run_app2 {P : Program} (t ty e : TypeId) (z : Value) (bytes : Nat) (hinfo : (P.info? e).map (fun i => (i.zero, i.size, i.bytes)) = some (some z, L.size, bytes)) (ht : P.underlying t = some (.slice e)) (hz : z.cells.size = L.size) (hsz : 0 < L.size) (hby : bytes ≤ 1000)
    (w : World) {base : Nat} {v u : Value} {xs ys : List α} {B : Nat} (hown : w.ownsRow base e L.size v xs.length (L.cells xs)) (hu : Lies L w B u ys) (h1 : ∀ y ∈ ys, ∀ u ∈ L.enc y, u.oneCell' = true) (hb : xs.length + ys.length ≤ 10000000) (hbase : base ≤ w.heap.size) :
    ∃ v' w', (Builtin.append_ #[t, t] ty #[v, u]).run P w = .ok v' w' ∧ w'.ownsRow base e L.size v' (xs ++ ys).length (L.cells (xs ++ ys)) ∧ w.grownBy w' v.ownBlock ∧ (v'.ownBlock = v.ownBlock ∨ v'.ownBlock = some w.heap.size) := by
  obtain ⟨v', w', hr, ho, hg⟩ := run_app t ty e z bytes hinfo ht hz hsz hby w hown hu h1 hb hbase
  refine ⟨v', w', hr, ho, hg, ?_⟩
  obtain ⟨i0, hi, hz0, hz1, hz2⟩ := info_parts hinfo
  obtain ⟨A, cap, rfl, h2, h3, h4⟩ := hu
  cases A with
  | none =>
    have hy : ys = [] := by
      rcases h4 with h4 | ⟨b, off, _, hA, _⟩
      · exact h4
      · cases hA
    subst hy
    have hr' : (Builtin.append_ #[t, t] ty #[v, .slice none ([] : List α).length cap]).run P w = .ok v w := by
      rcases hown.2 with ⟨rfl, _⟩ | ⟨g, c, cur, rfl, _, _, hnc, _⟩
      · simp [Builtin.append_, run_underlying ht, sizeOf, typeInfo, hi, Builtin.lenOf, Builtin.firstCells]
      · simp [Builtin.append_, run_underlying ht, sizeOf, typeInfo, hi, Builtin.lenOf, Builtin.firstCells, hnc, storeCells]
    rw [hr'] at hr
    injection hr with e1 _
    rw [← e1]
    exact .inl rfl
  | some ad =>
    have hnews : ∀ j x, (L.cells ys)[j]? = some x → w.cell? (ad.add j) = some x := fun j x hx => by
      rcases h4 with rfl | ⟨b, off, _, hA, hc⟩
      · simp [Lay.cells] at hx
      · cases hA
        rw [Addr.add_lit]
        exact hc j x hx
    have hone : ∀ x ∈ L.cells ys, x.oneCell' = true := fun x hx => by
      obtain ⟨y, hy, hx⟩ := List.mem_flatMap.1 hx
      exact h1 y hy x hx
    have hln : (L.cells ys).length = ys.length * i0.size := by rw [cells_len, hz1]
    have hbytes : (xs.length + ys.length) * i0.bytes ≤ 140737488355328 := by
      rw [hz2]
      exact Nat.le_trans (Nat.mul_le_mul hb hby) (by decide)
    rcases hown.2 with ⟨rfl, h0⟩ | ⟨g, c, cur, rfl, hbg, hgg, hnc, hcm, hcs, htake⟩
    · rcases Nat.eq_zero_or_pos ys.length with hm | hm
      · have hy : ys = [] := List.eq_nil_of_length_eq_zero hm
        subst hy
        have hr' : (Builtin.append_ #[t, t] ty #[.slice none 0 0, .slice (some ad) ([] : List α).length cap]).run P w = .ok (.slice none 0 0) w := by
          simp [Builtin.append_, run_underlying ht, sizeOf, typeInfo, hi, Builtin.lenOf, Builtin.firstCells, loadCells, loadCellsFrom]
        rw [hr'] at hr
        injection hr with e1 _
        rw [← e1]
        exact .inl rfl
      · have hr' := run_append_nil (P := P) w t ty e i0 z ht hi hz0 ad ys.length cap (L.cells ys) hln hnews (by omega) (by omega) (by rw [h0, Nat.zero_add] at hbytes; omega)
        rw [hr'] at hr
        injection hr with e1 _
        rw [← e1]
        exact .inr rfl
    · by_cases hroom : xs.length + ys.length ≤ c
      · have hfit : xs.length * i0.size + (L.cells ys).length ≤ cur.size := by rw [hln, hcs, ← hz1, ← Nat.add_mul]; exact Nat.mul_le_mul_right _ hroom
        have hr' := run_append_room (P := P) w t ty e i0 ht hi g xs.length c cur hgg ad ys.length cap (L.cells ys) hln hnews hone hroom hfit
        rw [hr'] at hr
        injection hr with e1 _
        rw [← e1]
        exact .inl rfl
      · have holds : ∀ j u, (L.cells xs)[j]? = some u → w.cell? ((⟨g, 0, none⟩ : Addr).add j) = some u := hown.cells (g := g) rfl
        have hr' := run_append_grow (P := P) w t ty e i0 z ht hi hz0 ⟨g, 0, none⟩ xs.length c (L.cells xs) (by rw [cells_len, hz1]) holds ad ys.length cap (L.cells ys) hln hnews (by omega) (by omega) (growslice_fits (by omega) hbytes)
        rw [hr'] at hr
        injection hr with e1 _
        rw [← e1]
        exact .inr rfl

theorem wpList_app2 {P : Program} (e : TypeId) (z : Value) (bytes : Nat) {t : TypeId} (hinfo : (P.info? e).map (fun i => (i.zero, i.size, i.bytes)) = some (some z, L.size, bytes)) (ht : P.underlying t = some (.slice e)) (hz : z.cells.size = L.size) (hsz : 0 < L.size) (hby : bytes ≤ 1000)
    (w : World) {ops : Array Oper} {rest : List Oper} {o : Oper} {a : Act} {Q : Exit → Act → World → Prop} (hgd : o.guard = none) (s x : Operand)
    (hop : o.op = Op.call { callee := Callee.builtin Builtin.append, args := #[s, x], argTypes := #[t, t] }) (base : Nat) (v u : Value) (xs ys : List α) (B : Nat) (hs : a.eval s = v) (hown : w.ownsRow base e L.size v xs.length (L.cells xs))
    (hx : a.eval x = u) (hu : Lies L w B u ys) (h1 : ∀ y ∈ ys, ∀ u ∈ L.enc y, u.oneCell' = true) (hb : xs.length + ys.length ≤ 10000000) (hbase : base ≤ w.heap.size)
    (hK : ∀ v' w', w'.ownsRow base e L.size v' (xs ++ ys).length (L.cells (xs ++ ys)) → w.grownBy w' v.ownBlock → (v'.ownBlock = v.ownBlock ∨ v'.ownBlock = some w.heap.size) → wpList P ops Q rest (a.put o.dst v') w') :
    wpList P ops Q (o :: rest) a w := by
  refine wpList_plain hgd fun K hK' => ?_
  obtain ⟨v', w', hr, h1, h2, h3⟩ := run_app2 t o.type e z bytes hinfo ht hz hsz hby w hown hu h1 hb hbase
  unfold Oper.wp execOp
  simp only [hop, resolve, invoke, builtin, Sem.run_bind, Sem.run_pure, Result.andThen_ok, List.map_toArray, List.map_cons, List.map_nil, hs, hx, hr]
  exact hK' _ _ (hK v' w' h1 h2 h3)

/-- What lies in a block that isn't written stays. -/
theorem Lies.off {w w' : World} {v : Value} {xs : List α} {row : Option Nat} (h : Lies L w w.heap.size v xs) (hg : w.grownBy w' row) (hne : ∀ b, v.ownBlock = some b → some b ≠ row) : Lies L w' w'.heap.size v xs := by
  obtain ⟨A, cap, rfl, h1, h2, h3⟩ := h
  refine ⟨A, cap, rfl, h1, h2, ?_⟩
  rcases h3 with h3 | ⟨b, off, hb, rfl, hc⟩
  · exact .inl h3
  · refine .inr ⟨b, off, Nat.lt_of_lt_of_le hb hg.size, rfl, fun j u hu => (World.cell?_of_block (a := ⟨b, off + j, none⟩) (hg.block b hb (hne b rfl))).trans (hc j u hu)⟩
end

end Go.Proofs.Rw
end
section
/- Slices of slices: levels of buckets in memory, and a row of the call's own to which levels are appended. -/
namespace Go.Proofs.Rw
open Go Go.RowKit

/-- One value a cell. -/
def valL : Lay Value := ⟨1, fun v => [v], fun _ => rfl⟩
theorem valL_cells (vs : List Value) : valL.cells vs = vs := by
  induction vs with
  | nil => rfl
  | cons v vs ih => rw [cells_cons, ih]; rfl

/-- Nothing, in whatever world, is 'nil'. -/
def NilOk (v : Value) : Prop := ∀ n c, v = .slice none n c → n = 0 ∧ c = 0
/-- The block b holds cells of the type T. -/
def Ty (w : World) (T : TypeId) (b : Nat) : Prop := ∃ (cs : Array Value) (fr : Nat × Nat), w.heap[b]? = some (.cells cs T fr)
theorem Ty.lt {w : World} {T : TypeId} {b : Nat} (h : Ty w T b) : b < w.heap.size := by
  obtain ⟨cs, fr, h⟩ := h
  exact (Array.getElem?_eq_some_iff.1 h).1
theorem Ty.keep {w w' : World} {T : TypeId} {b : Nat} (h : Ty w T b) (hk : w'.heap[b]? = w.heap[b]?) : Ty w' T b := by
  obtain ⟨cs, fr, h⟩ := h
  exact ⟨cs, fr, hk.trans h⟩
theorem Ty.ne {w : World} {T T' : TypeId} {b b' : Nat} (h : Ty w T b) (h' : Ty w T' b') (hne : T ≠ T') : b ≠ b' := by
  rintro rfl
  obtain ⟨cs, fr, h⟩ := h
  obtain ⟨cs', fr', h'⟩ := h'
  rw [h] at h'
  injection h' with h'
  injection h' with _ h' _
  exact hne h'
/-- What is held, is held in blocks of the type T. -/
def Held (w : World) (T : TypeId) (v : Value) : Prop := ∀ b, v.ownBlock = some b → Ty w T b
theorem lies_lt {α : Type} {L : Lay α} {w : World} {B : Nat} {v : Value} {xs : List α} (h : Lies L w B v xs) (hn : xs ≠ []) {b : Nat} (hb : v.ownBlock = some b) : b < B := by
  obtain ⟨A, cap, rfl, _, _, h6⟩ := h
  rcases h6 with h6 | ⟨b', off, hb', rfl, _⟩
  · exact absurd h6 hn
  · injection hb with hb
    exact hb ▸ hb'
section
variable {w w' : World} {B B' : Nat} {v : Value} {ls : List (List Sp)}

theorem Lies.off2 {α : Type} {L : Lay α} {w w' : World} {v : Value} {xs : List α} {row : Option Nat} (h : Lies L w w.heap.size v xs) (hg : w.grownBy w' row) (hne : xs ≠ [] → ∀ b, v.ownBlock = some b → some b ≠ row) : Lies L w' w'.heap.size v xs := by
  by_cases hx : xs = []
  · obtain ⟨A, cap, rfl, h1, h2, _⟩ := h
    exact ⟨A, cap, rfl, h1, h2, .inl hx⟩
  · exact h.off hg (hne hx)

theorem slice_one {A : Option Addr} {n c : Nat} : (Value.slice A n c).oneCell' = true := rfl
theorem lies_one {α : Type} {L : Lay α} {xs : List α} (h : Lies L w B v xs) : v.oneCell' = true := by
  obtain ⟨A, cap, rfl, _⟩ := h
  rfl

/-- A level, new in a literal of one: what append is handed. -/
theorem lit_val (W : World) (T : TypeId) (n : Nat) (hn : W.heap.size = n) (u : Value) : Lies valL (W.alloc (.cells #[u] T)) (n + 1) (.slice (some ⟨n, 0, none⟩) 1 1) [u] := by
  subst hn
  refine ⟨_, 1, rfl, by simp, by unfold maxLen; omega, .inr ⟨W.heap.size, 0, by omega, rfl, fun j x hx => ?_⟩⟩
  rw [Nat.zero_add, cell_of_row _ _ _ #[u] T (0, 0) (heap_alloc_new W _)]
  rw [valL_cells] at hx
  simpa using hx

theorem own_len {w : World} {base n c m : Nat} {A : Option Addr} {e : TypeId} {size : Nat} {cs : List Value} (h : w.ownsRow base e size (.slice A n c) m cs) : n = m := by
  rcases h.2 with ⟨h1, h2⟩ | ⟨g, cap, cur, h1, _⟩
  · injection h1 with _ h1 _
    omega
  · injection h1 with _ h1 _
end

end Go.Proofs.Rw
end
