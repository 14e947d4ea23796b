/- Bytes in memory: what varint.Put has made, as a string; varint.Take of bytes that lie somewhere. -/
import Derived.Laws.IdiomStrings
import Derived.Laws.OwnMore
import Derived.Below
import Derived.OpenShut
import Derived.OwnWalk
import Derived.Test.YtemplngmkpldeaaPut
import Derived.Test.YtemplngmkpldeaaTake
namespace Go.Proofs.Ytemplngmkpldeaa
open Go.RowKit Go.Proofs.Vm

/-- The string of these bytes. -/
def strOf (bs : List Int) : ByteArray := ⟨(bs.map fun x => UInt8.ofNat x.toNat).toArray⟩

/-- The slice value v holds just the bytes bs, and lies below block B. -/
def Holds (w : World) (B : Nat) (v : Value) (bs : List Int) : Prop :=
  ∃ A cap, v = .slice A bs.length cap ∧ bs.length ≤ cap ∧ cap ≤ maxLen ∧ (bs = [] ∨ ∃ b off, b < B ∧ A = some ⟨b, off, none⟩ ∧ ∀ j, j < bs.length → w.cell? ⟨b, off + j, none⟩ = some (.int .u8 (bs.getD j 0)))

theorem Holds.keep {w w' : World} {B : Nat} {v : Value} {bs : List Int} (h : Holds w B v bs) (hk : ∀ b o, b < B → w'.cell? ⟨b, o, none⟩ = w.cell? ⟨b, o, none⟩) : Holds w' B v bs := by
  obtain ⟨A, cap, hv, h1, h2, h3⟩ := h
  refine ⟨A, cap, hv, h1, h2, ?_⟩
  rcases h3 with h3 | ⟨b, off, hb, hA, hc⟩
  · exact .inl h3
  · exact .inr ⟨b, off, hb, hA, fun j hj => (hk b (off + j) hb).trans (hc j hj)⟩
theorem Holds.below {w w' : World} {B : Nat} {v : Value} {bs : List Int} (h : Holds w B v bs) (hb : Below B w w') : Holds w' B v bs := h.keep fun b o h => hb.cell (p := ⟨b, o, none⟩) h
theorem Holds.mono {w : World} {B B' : Nat} {v : Value} {bs : List Int} (h : Holds w B v bs) (hB : B ≤ B') : Holds w B' v bs := by
  obtain ⟨A, cap, hv, h1, h2, h3⟩ := h
  refine ⟨A, cap, hv, h1, h2, h3.imp id ?_⟩
  rintro ⟨b, off, hb, r⟩
  exact ⟨b, off, by omega, r⟩
theorem Holds.alloc {w : World} {B : Nat} {v : Value} {bs : List Int} (h : Holds w B v bs) (hB : B ≤ w.heap.size) (o : Obj) : Holds (w.alloc o) B v bs :=
  h.keep fun b off hb => World.cell?_alloc_lt w o ⟨b, off, none⟩ (by show b < _; omega)

theorem Holds.of_own {w : World} {base : Nat} {v : Value} {bs : List Int} (h : w.ownsRow base 5 1 v bs.length (bs.map (Value.int .u8))) : Holds w w.heap.size v bs := by
  rcases h.2 with ⟨rfl, h0⟩ | ⟨g, cap, cur, rfl, hb, hg, h1, h2, h3, h4⟩
  · have : bs = [] := List.eq_nil_of_length_eq_zero h0
    subst this
    exact ⟨none, 0, rfl, by simp, by simp, .inl rfl⟩
  · refine ⟨_, cap, rfl, h1, h2, .inr ⟨g, 0, (Array.getElem?_eq_some_iff.1 hg).1, rfl, fun j hj => ?_⟩⟩
    have := h.cellAt j (by omega)
    rw [Nat.zero_add, this, List.getElem?_map, List.getD_eq_getElem?_getD, List.getElem?_eq_getElem hj]
    rfl

theorem run_str {w : World} {B : Nat} {v : Value} {bs : List Int} (h : Holds w B v bs) (hb : ∀ x ∈ bs, 0 ≤ x ∧ x ≤ 255) : (convert 23 9 v).run Try.prog w = .ok (.string (strOf bs)) w := by
  obtain ⟨A, cap, rfl, h1, h2, h3⟩ := h
  have key : ∀ b off, A = some ⟨b, off, none⟩ → (∀ j, j < bs.length → w.cell? ⟨b, off + j, none⟩ = some (.int .u8 (bs.getD j 0))) → (convert 23 9 (.slice A bs.length cap)).run Try.prog w = .ok (.string (strOf bs)) w := by
    rintro b off rfl hc
    have := run_convert_bytes_back (P := Try.prog) w 23 9 5 ⟨b, off, none⟩ cap (bs.map fun x => UInt8.ofNat x.toNat) Try.underlying23 Try.underlying5 Try.underlying9 (fun j hj => by
      rw [List.length_map] at hj
      have hbj := hb bs[j] (List.getElem_mem hj)
      have e : (⟨b, off, none⟩ : Addr).add j = ⟨b, off + j, none⟩ := by unfold Addr.add; split <;> simp_all
      rw [e, hc j hj, List.getElem_map, List.getD_eq_getElem?_getD, List.getElem?_eq_getElem hj]
      simp only [Option.getD_some, Option.some.injEq, Value.int.injEq, true_and]
      rw [UInt8.toNat_ofNat']
      omega)
    rw [List.length_map] at this
    exact this
  rcases h3 with rfl | ⟨b, off, _, hA, hc⟩
  · cases A with
    | none =>
      rw [run_convert_bytes_string w 23 9 5 none _ cap Try.underlying23 Try.underlying5 Try.underlying9]
      simp [Conv.bytesToString, strOf]
      rfl
    | some a =>
      have := run_convert_bytes_back (P := Try.prog) w 23 9 5 a cap [] Try.underlying23 Try.underlying5 Try.underlying9 (fun j hj => by simp at hj)
      exact this
  · exact key b off hA hc

theorem strOf_inj {cs bs : List Int} (ha : ∀ x ∈ cs, 0 ≤ x ∧ x ≤ 255) (hb : ∀ x ∈ bs, 0 ≤ x ∧ x ≤ 255) (h : strOf cs = strOf bs) : cs = bs := by
  unfold strOf at h
  have h' : (cs.map fun x => UInt8.ofNat x.toNat) = bs.map fun x => UInt8.ofNat x.toNat := by
    injection h with h; exact List.toArray_inj h
  clear h
  induction cs generalizing bs with
  | nil => cases bs with
    | nil => rfl
    | cons b bs => simp at h'
  | cons a cs ih => cases bs with
    | nil => simp at h'
    | cons b bs =>
      simp only [List.map_cons, List.cons.injEq] at h'
      have h1 := ha a (by simp); have h2 := hb b (by simp)
      have e : a = b := by
        have := congrArg UInt8.toNat h'.1
        rw [UInt8.toNat_ofNat', UInt8.toNat_ofNat'] at this
        omega
      rw [e, ih (fun x hx => ha x (by simp [hx])) (fun x hx => hb x (by simp [hx])) h'.2]

theorem str_beq (a b : ByteArray) : (a.toList == b.toList) = decide (a = b) := by
  rw [Bool.eq_iff_iff]
  simp only [beq_iff_eq, decide_eq_true_eq]
  constructor
  · intro h
    rw [ByteArray.toList_eq, ByteArray.toList_eq] at h
    exact ByteArray.ext (Array.toList_inj.1 h)
  · intro h; rw [h]

/-- varint.Take of bytes, wherever they lie. -/
theorem take_any {w : World} {B : Nat} {v : Value} {bs : List Int} (h : Holds w B v bs) (hb : ∀ x ∈ bs, 0 ≤ x ∧ x ≤ 255) : Calls Try.prog 35 #[v] w fun e w' => e = tk (vtake bs) ∧ w = w' := by
  obtain ⟨A, cap, rfl, h1, h2, h3⟩ := h
  rcases h3 with rfl | ⟨b, off, _, rfl, hc⟩
  · exact take_nil A cap w
  · exact take_some b off bs hb cap w (by omega) hc

/-- varint.Put: a slice that holds the number's bytes, in new memory. -/
theorem put_holds (x : Nat) (hx : x < 18446744073709551616) (w : World) :
    Calls Try.prog 27 #[.int .u64 x] w fun e w' => ∃ v, e = .returned v ∧ Holds w' w'.heap.size v (vput x) ∧ Below w.heap.size w w' :=
  (put_any x hx w).mono fun _ _ ⟨v, he, ho, hb⟩ => ⟨v, he, Holds.of_own ho, hb⟩

/-- varint.Put: how many bytes. -/
theorem put_len (x k : Nat) (hx : x < 18446744073709551616) (hk : (vput x).length = k) (w : World) :
    Calls Try.prog 27 #[.int .u64 x] w fun e w' => ∃ A cap, e = .returned (.slice A k cap) ∧ Below w.heap.size w w' :=
  (put_holds x hx w).mono fun _ _ ⟨v, he, ⟨A, cap, hv, _⟩, hb⟩ => ⟨A, cap, by rw [he, hv, hk], hb⟩

theorem add_plain (b off j : Nat) : (⟨b, off, none⟩ : Addr).add j = ⟨b, off + j, none⟩ := by unfold Addr.add; split <;> simp_all

/-- Bytes appended to a row of the call's own. -/
theorem run_app (w : World) (ty : TypeId) {base : Nat} {v u : Value} {xs ys : List Int} {B : Nat} (hown : w.ownsRow base 5 1 v xs.length (xs.map (Value.int .u8))) (hu : Holds w B u ys) (hb : xs.length + ys.length ≤ 1000000) (hbase : base ≤ w.heap.size) :
    ∃ v' w', (Builtin.append_ #[23, 23] ty #[v, u]).run Try.prog w = .ok v' w' ∧ w'.ownsRow base 5 1 v' (xs ++ ys).length ((xs ++ ys).map (Value.int .u8)) ∧ w.grownBy w' v.ownBlock := by
  obtain ⟨i0, hi, hz0, hz1, hz2⟩ := info_parts info5
  obtain ⟨A, cap, rfl, h1, h2, h3⟩ := hu
  cases A with
  | none =>
    have hy : ys = [] := by
      rcases h3 with h3 | ⟨b, off, _, hA, _⟩
      · exact h3
      · cases hA
    subst hy
    refine ⟨v, w, ?_, by simpa using hown, World.grownBy.refl w _⟩
    rcases hown.2 with ⟨rfl, _⟩ | ⟨g, c, cur, rfl, _, _, hnc, _⟩
    · simp [Builtin.append_, run_underlying Try.underlying23, sizeOf, typeInfo, hi, Builtin.lenOf, Builtin.firstCells]
    · simp [Builtin.append_, run_underlying Try.underlying23, sizeOf, typeInfo, hi, Builtin.lenOf, Builtin.firstCells, hnc, storeCells]
  | some ad =>
    obtain ⟨v', w', hr, ho, hg, _⟩ := run_append_own (P := Try.prog) w base 23 ty 5 i0 (.int .u8 0) 1 1 Try.underlying23 hi hz0 hz1 hz2 rfl (by omega) v xs.length (xs.map (Value.int .u8)) hown ad ys.length cap (ys.map (Value.int .u8)) (by simp)
      (fun j x hx => by
        rcases h3 with rfl | ⟨b, off, _, hA, hc⟩
        · simp at hx
        · cases hA
          have hj : j < ys.length := by have := (List.getElem?_eq_some_iff.1 hx).1; simpa using this
          rw [add_plain, hc j hj]
          rw [List.getElem?_map, List.getElem?_eq_getElem hj] at hx
          rw [List.getD_eq_getElem?_getD, List.getElem?_eq_getElem hj]
          simpa using hx)
      (fun x hx => by obtain ⟨y, _, rfl⟩ := List.mem_map.1 hx; rfl) (by unfold maxLen; omega) (by omega) hbase
    exact ⟨v', w', hr, by simpa using ho, hg⟩

theorem wpList_app (w : World) {ops : Array Oper} {rest : List Oper} {o : Oper} {a : Act} {Q : Exit → Act → World → Prop} (hgd : o.guard = none) (s x : Operand)
    (hop : o.op = Op.call { callee := Callee.builtin Builtin.append, args := #[s, x], argTypes := #[23, 23] }) (base : Nat) (v u : Value) (xs ys : List Int) (B : Nat) (hs : a.eval s = v) (hown : w.ownsRow base 5 1 v xs.length (xs.map (Value.int .u8)))
    (hx : a.eval x = u) (hu : Holds w B u ys) (hb : xs.length + ys.length ≤ 1000000) (hbase : base ≤ w.heap.size)
    (hK : ∀ v' w', w'.ownsRow base 5 1 v' (xs ++ ys).length ((xs ++ ys).map (Value.int .u8)) → w.grownBy w' v.ownBlock → wpList Try.prog ops Q rest (a.put o.dst v') w') :
    wpList Try.prog ops Q (o :: rest) a w := by
  refine wpList_plain hgd fun K hK' => ?_
  obtain ⟨v', w', hr, h1, h2⟩ := run_app w o.type hown hu hb hbase
  unfold Oper.wp execOp
  simp only [hop, resolve, invoke, builtin, Sem.run_bind, Sem.run_pure, Result.andThen_ok, List.map_toArray, List.map_cons, List.map_nil, hs, hx, hr]
  exact hK' _ _ (hK v' w' h1 h2)

/-- A slice of bytes that came in, as the frame tells it. -/
theorem holds_of_row {w : World} {A : Option Addr} {len cap : Nat} {zs : List Int} (h : (A = none ∧ len = 0 ∧ cap = 0 ∧ zs = []) ∨
    ∃ x, A = some x ∧ len ≤ cap ∧ cap ≤ maxLen ∧ zs.length = cap ∧ (∀ i, i < zs.length → w.cell? (x.add i) = some (.int .u8 (zs.getD i 0))) ∧ ∀ n ∈ zs, (Lit.int .u8 n).wf = true) :
    Holds w w.heap.size (.slice A len cap) (zs.take len) ∧ (zs.take len).length = len ∧ ∀ x ∈ zs.take len, 0 ≤ x ∧ x ≤ 255 := by
  rcases h with ⟨rfl, rfl, rfl, rfl⟩ | ⟨x, rfl, h1, h2, h3, h4, h5⟩
  · exact ⟨⟨none, 0, rfl, by simp, by simp, .inl rfl⟩, rfl, by simp⟩
  · have hl : (zs.take len).length = len := by simp; omega
    refine ⟨⟨some x, cap, by rw [hl], by omega, h2, ?_⟩, hl, fun y hy => bounds_u8 (h5 y (List.mem_of_mem_take hy))⟩
    rcases Nat.eq_zero_or_pos len with h0 | h0
    · subst h0; exact .inl (by simp)
    · obtain ⟨b, off, rfl, hc⟩ := ints_at h4 (by omega)
      refine .inr ⟨b, off, ?_, rfl, fun j hj => ?_⟩
      · exact World.block_lt_of_cell? w ⟨b, off + 0, none⟩ (hc 0 (by omega))
      · rw [hl] at hj
        rw [hc j (by omega), List.getD_eq_getElem?_getD, List.getD_eq_getElem?_getD, List.getElem?_take_of_lt hj]

/-- The first k bytes. -/
theorem Holds.take {w : World} {B : Nat} {A : Option Addr} {cap : Nat} {bs : List Int} (h : Holds w B (.slice A bs.length cap) bs) (k : Nat) (hk : k ≤ bs.length) : Holds w B (.slice A k cap) (bs.take k) := by
  obtain ⟨A', cap', hv, h1, h2, h3⟩ := h
  injection hv with e1 e2 e3
  subst e1; subst e3
  have hl : (bs.take k).length = k := by simp; omega
  refine ⟨A, cap, by rw [hl], by omega, h2, ?_⟩
  rcases h3 with rfl | ⟨b, off, hb, hA, hc⟩
  · exact .inl (by simp)
  · refine .inr ⟨b, off, hb, hA, fun j hj => ?_⟩
    rw [hl] at hj
    rw [hc j (by omega), List.getD_eq_getElem?_getD, List.getD_eq_getElem?_getD, List.getElem?_take_of_lt hj]

/-- varint.Put: its bytes, each in its cell. -/
theorem put_some (x : Nat) (bs : List Int) (hx : x < 18446744073709551616) (hb : vput x = bs) (w : World) :
    Calls Try.prog 27 #[.int .u64 x] w fun e w' => ∃ b off cap, e = .returned (.slice (some ⟨b, off, none⟩) bs.length cap) ∧ (∀ j, j < bs.length → w'.cell? ⟨b, off + j, none⟩ = some (.int .u8 (bs.getD j 0))) ∧ Below w.heap.size w w' :=
  (put_holds x hx w).mono fun _ _ ⟨v, he, ⟨A, cap, hv, _, _, h3⟩, hbl⟩ => by
    subst hb
    rcases h3 with h3 | ⟨b, off, _, hA, hc⟩
    · have := vput_len_pos x
      rw [h3] at this
      simp at this
    · exact ⟨b, off, cap, by rw [he, hv, hA], hc, hbl⟩

/-- varint.Put: its bytes, at an address that is written out. -/
theorem put_own (x : Nat) (bs : List Int) (hx : x < 18446744073709551616) (hb : vput x = bs) (w : World) :
    Calls Try.prog 27 #[.int .u64 x] w fun e w' => ∃ b off cap, e = .returned (.slice (some ⟨b, off, none⟩) bs.length cap) ∧ bs.length ≤ cap ∧ cap ≤ 9223372036854775807 ∧ Holds w' w'.heap.size (.slice (some ⟨b, off, none⟩) bs.length cap) bs ∧ Below w.heap.size w w' :=
  (put_holds x hx w).mono fun _ _ ⟨v, he, ⟨A, cap, hv, h1, h2, h3⟩, hbl⟩ => by
    subst hb
    have h2' := h2
    unfold maxLen at h2'
    rcases h3 with h3 | ⟨b, off, hlt, hA, hc⟩
    · have := vput_len_pos x
      rw [h3] at this
      simp at this
    · exact ⟨b, off, cap, by rw [he, hv, hA], h1, by omega, ⟨_, cap, rfl, h1, h2, .inr ⟨b, off, hlt, rfl, hc⟩⟩, hbl⟩

/-- What is owned stays so where all that lay stays. -/
theorem ownsRow_below {w w' : World} {base : Nat} {e : TypeId} {size : Nat} {v : Value} {n : Nat} {xs : List Value} (h : w.ownsRow base e size v n xs) (hb : Below w.heap.size w w') : w'.ownsRow base e size v n xs := by
  refine ⟨h.1, ?_⟩
  rcases h.2 with h1 | ⟨g, cap, cur, hv, hg, hh, r⟩
  · exact .inl h1
  · exact .inr ⟨g, cap, cur, hv, hg, (hb.block g (Array.getElem?_eq_some_iff.1 hh).1).trans hh, r⟩
theorem ret_true {a : Bool} (h : a = true) : Ending.returned (.bool a) = .returned (.bool true) := by rw [h]
theorem app_bounds {xs ys : List Int} (hx : ∀ x ∈ xs, 0 ≤ x ∧ x ≤ 255) (hy : ∀ x ∈ ys, 0 ≤ x ∧ x ≤ 255) : ∀ x ∈ xs ++ ys, 0 ≤ x ∧ x ≤ 255 := fun x h => (List.mem_append.1 h).elim (hx x) (hy x)
theorem take_bounds {xs : List Int} (hx : ∀ x ∈ xs, 0 ≤ x ∧ x ≤ 255) (k : Nat) : ∀ x ∈ xs.take k, 0 ≤ x ∧ x ≤ 255 := fun x h => hx x (List.mem_of_mem_take h)

end Go.Proofs.Ytemplngmkpldeaa
