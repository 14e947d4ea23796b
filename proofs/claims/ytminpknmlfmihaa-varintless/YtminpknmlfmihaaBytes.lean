/- Bytes in memory: what varint.Put has made, as a string; varint.Take of bytes that lie somewhere. -/
import Derived.Laws.IdiomStrings
import Derived.Laws.OwnMore
import Derived.Below
import Derived.Test.YtminpknmlfmihaaPut
import Derived.Test.YtminpknmlfmihaaTake
namespace Go.Proofs.Ytminpknmlfmihaa
open Go.RowKit Go.Proofs.Vm

/-- The string of these bytes. -/
def strOf (bs : List Int) : ByteArray := ⟨(bs.map fun x => UInt8.ofNat x.toNat).toArray⟩

/-- The slice value v holds just the bytes bs, and lies below block B. -/
def Holds (w : World) (B : Nat) (v : Value) (bs : List Int) : Prop :=
  ∃ A cap, v = .slice A bs.length cap ∧ bs.length ≤ cap ∧ cap ≤ maxLen ∧ (bs = [] ∨ ∃ b off, b < B ∧ A = some ⟨b, off, none⟩ ∧ ∀ j, j < bs.length → w.cell? ⟨b, off + j, none⟩ = some (.int .u8 (bs.getD j 0)))

theorem Holds.keep {w w' : World} {B : Nat} {v : Value} {bs : List Int} (h : Holds w B v bs) (hk : ∀ b o, b < B → w'.cell? ⟨b, o, none⟩ = w.cell? ⟨b, o, none⟩) : Holds w' B v bs := by
  obtain ⟨A, cap, hv, h1, h2, h3⟩ := h
  refine ⟨A, cap, hv, h1, h2, ?_⟩
  rcases h3 with h3 | ⟨b, off, hb, hA, hc⟩
  · exact .inl h3
  · exact .inr ⟨b, off, hb, hA, fun j hj => (hk b (off + j) hb).trans (hc j hj)⟩
theorem Holds.below {w w' : World} {B : Nat} {v : Value} {bs : List Int} (h : Holds w B v bs) (hb : Below B w w') : Holds w' B v bs := h.keep fun b o h => hb.cell (p := ⟨b, o, none⟩) h
theorem Holds.mono {w : World} {B B' : Nat} {v : Value} {bs : List Int} (h : Holds w B v bs) (hB : B ≤ B') : Holds w B' v bs := by
  obtain ⟨A, cap, hv, h1, h2, h3⟩ := h
  refine ⟨A, cap, hv, h1, h2, h3.imp id ?_⟩
  rintro ⟨b, off, hb, r⟩
  exact ⟨b, off, by omega, r⟩
theorem Holds.alloc {w : World} {B : Nat} {v : Value} {bs : List Int} (h : Holds w B v bs) (hB : B ≤ w.heap.size) (o : Obj) : Holds (w.alloc o) B v bs :=
  h.keep fun b off hb => World.cell?_alloc_lt w o ⟨b, off, none⟩ (by show b < _; omega)

theorem Holds.of_own {w : World} {base : Nat} {v : Value} {bs : List Int} (h : w.ownsRow base 5 1 v bs.length (bs.map (Value.int .u8))) : Holds w w.heap.size v bs := by
  rcases h.2 with ⟨rfl, h0⟩ | ⟨g, cap, cur, rfl, hb, hg, h1, h2, h3, h4⟩
  · have : bs = [] := List.eq_nil_of_length_eq_zero h0
    subst this
    exact ⟨none, 0, rfl, by simp, by simp, .inl rfl⟩
  · refine ⟨_, cap, rfl, h1, h2, .inr ⟨g, 0, (Array.getElem?_eq_some_iff.1 hg).1, rfl, fun j hj => ?_⟩⟩
    have := h.cellAt j (by omega)
    rw [Nat.zero_add, this, List.getElem?_map, List.getD_eq_getElem?_getD, List.getElem?_eq_getElem hj]
    rfl

theorem run_str {w : World} {B : Nat} {v : Value} {bs : List Int} (h : Holds w B v bs) (hb : ∀ x ∈ bs, 0 ≤ x ∧ x ≤ 255) : (convert 23 9 v).run Try.prog w = .ok (.string (strOf bs)) w := by
  obtain ⟨A, cap, rfl, h1, h2, h3⟩ := h
  have key : ∀ b off, A = some ⟨b, off, none⟩ → (∀ j, j < bs.length → w.cell? ⟨b, off + j, none⟩ = some (.int .u8 (bs.getD j 0))) → (convert 23 9 (.slice A bs.length cap)).run Try.prog w = .ok (.string (strOf bs)) w := by
    rintro b off rfl hc
    have := run_convert_bytes_back (P := Try.prog) w 23 9 5 ⟨b, off, none⟩ cap (bs.map fun x => UInt8.ofNat x.toNat) Try.underlying23 Try.underlying5 Try.underlying9 (fun j hj => by
      rw [List.length_map] at hj
      have hbj := hb bs[j] (List.getElem_mem hj)
      have e : (⟨b, off, none⟩ : Addr).add j = ⟨b, off + j, none⟩ := by unfold Addr.add; split <;> simp_all
      rw [e, hc j hj, List.getElem_map, List.getD_eq_getElem?_getD, List.getElem?_eq_getElem hj]
      simp only [Option.getD_some, Option.some.injEq, Value.int.injEq, true_and]
      rw [UInt8.toNat_ofNat']
      omega)
    rw [List.length_map] at this
    exact this
  rcases h3 with rfl | ⟨b, off, _, hA, hc⟩
  · cases A with
    | none =>
      rw [run_convert_bytes_string w 23 9 5 none _ cap Try.underlying23 Try.underlying5 Try.underlying9]
      simp [Conv.bytesToString, strOf]
      rfl
    | some a =>
      have := run_convert_bytes_back (P := Try.prog) w 23 9 5 a cap [] Try.underlying23 Try.underlying5 Try.underlying9 (fun j hj => by simp at hj)
      exact this
  · exact key b off hA hc

theorem strOf_inj {cs bs : List Int} (ha : ∀ x ∈ cs, 0 ≤ x ∧ x ≤ 255) (hb : ∀ x ∈ bs, 0 ≤ x ∧ x ≤ 255) (h : strOf cs = strOf bs) : cs = bs := by
  unfold strOf at h
  have h' : (cs.map fun x => UInt8.ofNat x.toNat) = bs.map fun x => UInt8.ofNat x.toNat := by
    injection h with h; exact List.toArray_inj h
  clear h
  induction cs generalizing bs with
  | nil => cases bs with
    | nil => rfl
    | cons b bs => simp at h'
  | cons a cs ih => cases bs with
    | nil => simp at h'
    | cons b bs =>
      simp only [List.map_cons, List.cons.injEq] at h'
      have h1 := ha a (by simp); have h2 := hb b (by simp)
      have e : a = b := by
        have := congrArg UInt8.toNat h'.1
        rw [UInt8.toNat_ofNat', UInt8.toNat_ofNat'] at this
        omega
      rw [e, ih (fun x hx => ha x (by simp [hx])) (fun x hx => hb x (by simp [hx])) h'.2]

/-- varint.Take of bytes, wherever they lie. -/
theorem take_any {w : World} {B : Nat} {v : Value} {bs : List Int} (h : Holds w B v bs) (hb : ∀ x ∈ bs, 0 ≤ x ∧ x ≤ 255) : Calls Try.prog 9 #[v] w fun e w' => e = tk (vtake bs) ∧ w = w' := by
  obtain ⟨A, cap, rfl, h1, h2, h3⟩ := h
  rcases h3 with rfl | ⟨b, off, _, rfl, hc⟩
  · exact take_nil A cap w
  · exact take_some b off bs hb cap w (by omega) hc

/-- varint.Put: a slice that holds the number's bytes, in new memory. -/
theorem put_holds (x : Nat) (hx : x < 18446744073709551616) (w : World) :
    Calls Try.prog 11 #[.int .u64 x] w fun e w' => ∃ v, e = .returned v ∧ Holds w' w'.heap.size v (vput x) ∧ Below w.heap.size w w' :=
  (put_any x hx w).mono fun _ _ ⟨v, he, ho, hb⟩ => ⟨v, he, Holds.of_own ho, hb⟩

/-- varint.Put: how many bytes. -/
theorem put_len (x k : Nat) (hx : x < 18446744073709551616) (hk : (vput x).length = k) (w : World) :
    Calls Try.prog 11 #[.int .u64 x] w fun e w' => ∃ A cap, e = .returned (.slice A k cap) ∧ Below w.heap.size w w' :=
  (put_holds x hx w).mono fun _ _ ⟨v, he, ⟨A, cap, hv, _⟩, hb⟩ => ⟨A, cap, by rw [he, hv, hk], hb⟩

end Go.Proofs.Ytminpknmlfmihaa
