/- Arguments that are made of integers alone (structs and arrays, and slices of these), opened to their cells. -/
import Derived.OpenShut
import Derived.Deep.Slices
import Derived.WideShapes
namespace Go.Proofs.Op
open Go Go.RowKit Go.ChangeShapes Go.WideShapes Go.Deep

/-- The kinds of a type's cells, where they are integers. -/
def kindsF (P : Program) (K : TypeId → Option (List IntKind)) (size : Nat) : List Field → Nat → Option (List IntKind)
  | [], off => if size = off then some [] else none
  | f :: fs, off => match K f.type with
    | some ks => if f.offset = off ∧ P.cellsOf f.type = ks.length then (kindsF P K size fs (off + ks.length)).map (ks ++ ·) else none
    | none => none
def kinds (P : Program) : Nat → TypeId → Option (List IntKind)
  | 0, _ => none
  | f + 1, t => match P.underlying t with
    | some (.int k) => some [k]
    | some (.array n e) => match kinds P f e with
      | some ks => if P.cellsOf e = ks.length ∧ P.cellsOf t = n * ks.length then some (List.replicate n ks).flatten else none
      | none => none
    | some (.struct fs) => kindsF P (kinds P f) (P.cellsOf t) fs.toList 0
    | _ => none

/-- Cells that are integers of these kinds, each fitting. -/
def Fits : List IntKind → List Value → Prop
  | [], [] => True
  | k :: ks, v :: vs => (∃ n, v = .int k n ∧ (Lit.int k n).wf = true) ∧ Fits ks vs
  | _, _ => False

theorem Fits.app {ks ks' : List IntKind} {vs vs' : List Value} (h : Fits ks vs) (h' : Fits ks' vs') : Fits (ks ++ ks') (vs ++ vs') := by
  induction ks generalizing vs with
  | nil => cases vs with
    | nil => exact h'
    | cons v vs => exact h.elim
  | cons k ks ih => cases vs with
    | nil => exact h.elim
    | cons v vs => exact ⟨h.1, ih h.2⟩
theorem Fits.at {ks : List IntKind} {vs : List Value} (h : Fits ks vs) (j : Nat) (k : IntKind) (hj : ks[j]? = some k) : ∃ n, vs[j]? = some (.int k n) ∧ (Lit.int k n).wf = true := by
  induction ks generalizing vs j with
  | nil => simp at hj
  | cons k' ks ih => cases vs with
    | nil => exact h.elim
    | cons v vs =>
      cases j with
      | zero =>
        simp only [List.getElem?_cons_zero, Option.some.injEq] at hj
        subst hj
        obtain ⟨n, rfl, hw⟩ := h.1
        exact ⟨n, rfl, hw⟩
      | succ j => exact ih h.2 j hj
theorem Fits.len {ks : List IntKind} {vs : List Value} (h : Fits ks vs) : vs.length = ks.length := by
  induction ks generalizing vs with
  | nil => cases vs with
    | nil => rfl
    | cons v vs => exact h.elim
  | cons k ks ih => cases vs with
    | nil => exact h.elim
    | cons v vs => simp [ih h.2]

section
variable {H : Type} {enc : TypeId × Value → H} {P : Program} {w : World} {base : Nat} {spare : Nat → Bool} {held : Bool}

theorem fits_fields {K : TypeId → Option (List IntKind)} {cs : List Value} {n : Nat} {xs : List (DataW H × List MemPlace)} {fs : Array Field}
    (hK : ∀ t ks cs x, K t = some ks → DataW.trod enc P w base spare held n t cs = some x → Fits ks cs) (hlen : xs.length = fs.size)
    (hf : ∀ (i : Nat) (f : Field), fs[i]? = some f → DataW.trod enc P w base spare held n f.type ((cs.drop f.offset).take (P.cellsOf f.type)) = xs[i]?) :
    ∀ (l : List Field) (i off : Nat) (ks : List IntKind), (∀ j, l[j]? = fs[i + j]?) → kindsF P K cs.length l off = some ks → Fits ks (cs.drop off) := by
  intro l
  induction l with
  | nil =>
    intro i off ks _ h
    simp only [kindsF] at h
    split at h
    · rename_i e
      cases h
      rw [List.drop_of_length_le (by omega)]
      trivial
    · cases h
  | cons f l ih =>
    intro i off ks hl h
    have h0 : fs[i]? = some f := by have := hl 0; simpa using this.symm
    have hi : i < xs.length := by rw [hlen]; exact (Array.getElem?_eq_some_iff.1 h0).1
    simp only [kindsF] at h
    split at h
    · rename_i ks1 hk1
      split at h
      · rename_i hc
        obtain ⟨ho, hC⟩ := hc
        rw [Option.map_eq_some_iff] at h
        obtain ⟨ks2, h2, rfl⟩ := h
        have h1 := hf i f h0
        rw [ho, hC, List.getElem?_eq_getElem hi] at h1
        have f1 := hK _ _ _ _ hk1 h1
        have f2 := ih (i + 1) (off + ks1.length) ks2 (fun j => by have := hl (j + 1); simpa [Nat.add_assoc, Nat.add_comm 1 j] using this) h2
        have : cs.drop off = (cs.drop off).take ks1.length ++ cs.drop (off + ks1.length) := by rw [← List.drop_drop, List.take_append_drop]
        rw [this]
        exact f1.app f2
      · cases h
    · cases h

/-- What is read of a type of integers is integers. -/
theorem fits_of_trod : ∀ (f : Nat) (t : TypeId) (ks : List IntKind) (fuel : Nat) (cs : List Value) (x : DataW H × List MemPlace), kinds P f t = some ks → DataW.trod enc P w base spare held fuel t cs = some x → Fits ks cs
  | 0, _, _, _, _, _, h, _ => by cases h
  | f + 1, t, ks, fuel, cs, x, h, hx => by
    simp only [kinds] at h
    split at h
    · rename_i k ht
      cases h
      obtain ⟨n, rfl, _, hw⟩ := DataW.trod_int ht hx
      exact ⟨⟨n, rfl, hw⟩, trivial⟩
    · rename_i n e ht
      split at h
      · rename_i ks1 hk1
        split at h
        · rename_i hc
          obtain ⟨hC, hT⟩ := hc
          cases h
          obtain ⟨xs, m, _, _, hlen, hxl, hf⟩ := DataW.trod_array ht hx
          have key : ∀ j, j ≤ n → Fits (List.replicate j ks1).flatten (cs.drop ((n - j) * ks1.length)) := by
            intro j
            induction j with
            | zero =>
              intro _
              rw [List.drop_of_length_le (by rw [hlen, hT]; exact Nat.le_refl _)]
              trivial
            | succ j ih =>
              intro hj
              have h1 := hf (n - (j + 1)) (by omega)
              rw [hC, List.getElem?_eq_getElem (by omega)] at h1
              have f1 := fits_of_trod f e ks1 m _ _ hk1 h1
              have f2 := ih (by omega)
              rw [List.replicate_succ, List.flatten_cons]
              have e1 : (n - j) * ks1.length = (n - (j + 1)) * ks1.length + ks1.length := by rw [← Nat.succ_mul]; congr 1; omega
              have : cs.drop ((n - (j + 1)) * ks1.length) = (cs.drop ((n - (j + 1)) * ks1.length)).take ks1.length ++ cs.drop ((n - j) * ks1.length) := by rw [e1, ← List.drop_drop, List.take_append_drop]
              rw [this]
              exact f1.app f2
          have := key n (Nat.le_refl _)
          simpa using this
        · cases h
      · cases h
    · rename_i fs ht
      obtain ⟨xs, n, _, _, hlen, hxl, hf⟩ := DataW.trod_struct ht hx
      rw [← hlen] at h
      have := fits_fields (K := kinds P f) (fun t ks cs x hk hx => fits_of_trod f t ks n cs x hk hx) hxl hf fs.toList 0 0 ks (fun j => by simp) h
      simpa using this
    · cases h

/-- A struct or an array of integers, by value. -/
theorem open_flat {f : Nat} {r : Reach} {b0 : Nat} {t : TypeId} {ks : List IntKind} {v : Value} {d : DataW H} {p : List MemPlace} (hk : kinds P f t = some ks)
    (ha : (match P.underlying t with | some (.struct _) => true | some (.array _ _) => true | _ => false) = true) (hv : Value.okWide P w r b0 t v) (h : DataW.Trod enc P w base spare held t v d p) : ∃ cs : List Value, v = .agg cs.toArray ∧ Fits ks cs := by
  obtain ⟨fuel, hf⟩ := h
  have := fits_of_trod f t ks fuel _ _ hk hf
  split at ha
  · rename_i fs ht
    obtain ⟨cs, rfl, _⟩ := okWide_struct ht hv
    exact ⟨cs.toList, by simp, by simpa [Value.cells] using this⟩
  · rename_i n e ht
    simp only [Value.okWide, ht] at hv
    obtain ⟨cs, rfl, _⟩ := hv
    exact ⟨cs.toList, by simp, by simpa [Value.cells] using this⟩
  · cases ha

/-- A slice of such: each cell of each element. -/
def FlatRow (ks : List IntKind) (w : World) (a : Option Addr) (len cap : Nat) (z : Nat → Nat → Int) : Prop :=
  len ≤ cap ∧ cap ≤ maxLen ∧ (len = 0 ∨ ∃ b off, a = some ⟨b, off, none⟩ ∧ b < w.heap.size ∧ ∀ i, i < len → ∀ j k, ks[j]? = some k → w.cell? ⟨b, off + (i * ks.length + j), none⟩ = some (.int k (z i j)) ∧ (Lit.int k (z i j)).wf = true)

theorem open_flats {f : Nat} {t e : TypeId} {ks : List IntKind} {a : Option Addr} {len cap : Nat} {d : DataW H} {p : List MemPlace} (ht : P.underlying t = some (.slice e)) (hk : kinds P f e = some ks) (hC : P.cellsOf e = ks.length) (h0 : 0 < ks.length)
    (h : DataW.Trod enc P w base spare held t (.slice a len cap) d p) : ∃ z, FlatRow ks w a len cap z := by
  obtain ⟨fuel, hf⟩ := h
  rcases open_slice ht hf with ⟨hcs, _⟩ | ⟨a', len', cap', m, n, D, Pl, hcs, _, hl, hm, hmm, _, hi⟩
  · simp only [Value.cells, List.cons.injEq, Value.slice.injEq, and_true] at hcs
    obtain ⟨rfl, rfl, rfl⟩ := hcs
    exact ⟨fun _ _ => 0, Nat.le_refl _, by simp, .inl rfl⟩
  · simp only [Value.cells, List.cons.injEq, Value.slice.injEq, and_true] at hcs
    obtain ⟨rfl, rfl, rfl⟩ := hcs
    rcases Nat.eq_zero_or_pos len with h00 | hpos
    · exact ⟨fun _ _ => 0, hl, hm, .inl h00⟩
    have hlm : len ≤ m := by rw [hmm]; split <;> omega
    have each : ∀ i, i < len → ∀ j k, ks[j]? = some k → ∃ n, w.cell? ((a'.add (i * ks.length)).add j) = some (.int k n) ∧ (Lit.int k n).wf = true := by
      intro i hil j k hj
      obtain ⟨cs', hc, ht'⟩ := hi i (by omega)
      rw [hC] at hc
      have hfit := fits_of_trod f e ks n cs' _ hk ht'
      obtain ⟨q, hq, hw⟩ := hfit.at j k hj
      have hjl : j < ks.length := (List.getElem?_eq_some_iff.1 hj).1
      have := (World.cells?_some hc).2.2 j hjl
      exact ⟨q, this.trans hq, hw⟩
    obtain ⟨b, off, spot⟩ := a'
    obtain ⟨k0, hk0⟩ : ∃ k, ks[0]? = some k := ⟨_, List.getElem?_eq_getElem h0⟩
    obtain ⟨n0, hc0, _⟩ := each 0 hpos 0 k0 hk0
    have hs : spot = none := by simpa [Addr.add] using World.cell?_spot hc0
    subst hs
    have hadd : ∀ i j, ((⟨b, off, none⟩ : Addr).add i).add j = ⟨b, off + (i + j), none⟩ := by
      intro i j
      rw [Go.WideShapes.add_plain, Go.WideShapes.add_plain, Nat.add_assoc]
    have hbl : b < w.heap.size := by
      rw [hadd] at hc0
      exact World.block_lt_of_cell? w _ hc0
    refine ⟨fun i j => match w.cell? ⟨b, off + (i * ks.length + j), none⟩ with | some (.int _ n) => n | _ => 0, hl, hm, .inr ⟨b, off, rfl, hbl, fun i hil j k hj => ?_⟩⟩
    obtain ⟨q, hq, hw⟩ := each i hil j k hj
    rw [hadd] at hq
    dsimp only
    rw [hq]
    exact ⟨rfl, hw⟩
end

end Go.Proofs.Op
