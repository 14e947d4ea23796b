/- Append onto a row of the call's own: where the new row lies; what other rows keep. -/
import Derived.Test.YtoplbjanemjebaaRowed
namespace Go.Proofs.Rw
open Go Go.RowKit

section
variable {α : Type} {L : Lay α}

theorem run_app2 {P : Program} (t ty e : TypeId) (z : Value) (bytes : Nat) (hinfo : (P.info? e).map (fun i => (i.zero, i.size, i.bytes)) = some (some z, L.size, bytes)) (ht : P.underlying t = some (.slice e)) (hz : z.cells.size = L.size) (hsz : 0 < L.size) (hby : bytes ≤ 1000)
    (w : World) {base : Nat} {v u : Value} {xs ys : List α} {B : Nat} (hown : w.ownsRow base e L.size v xs.length (L.cells xs)) (hu : Lies L w B u ys) (h1 : ∀ y ∈ ys, ∀ u ∈ L.enc y, u.oneCell' = true) (hb : xs.length + ys.length ≤ 10000000) (hbase : base ≤ w.heap.size) :
    ∃ v' w', (Builtin.append_ #[t, t] ty #[v, u]).run P w = .ok v' w' ∧ w'.ownsRow base e L.size v' (xs ++ ys).length (L.cells (xs ++ ys)) ∧ w.grownBy w' v.ownBlock ∧ (v'.ownBlock = v.ownBlock ∨ v'.ownBlock = some w.heap.size) := by
  obtain ⟨v', w', hr, ho, hg⟩ := run_app t ty e z bytes hinfo ht hz hsz hby w hown hu h1 hb hbase
  refine ⟨v', w', hr, ho, hg, ?_⟩
  obtain ⟨i0, hi, hz0, hz1, hz2⟩ := info_parts hinfo
  obtain ⟨A, cap, rfl, h2, h3, h4⟩ := hu
  cases A with
  | none =>
    have hy : ys = [] := by
      rcases h4 with h4 | ⟨b, off, _, hA, _⟩
      · exact h4
      · cases hA
    subst hy
    have hr' : (Builtin.append_ #[t, t] ty #[v, .slice none ([] : List α).length cap]).run P w = .ok v w := by
      rcases hown.2 with ⟨rfl, _⟩ | ⟨g, c, cur, rfl, _, _, hnc, _⟩
      · simp [Builtin.append_, run_underlying ht, sizeOf, typeInfo, hi, Builtin.lenOf, Builtin.firstCells]
      · simp [Builtin.append_, run_underlying ht, sizeOf, typeInfo, hi, Builtin.lenOf, Builtin.firstCells, hnc, storeCells]
    rw [hr'] at hr
    injection hr with e1 _
    rw [← e1]
    exact .inl rfl
  | some ad =>
    have hnews : ∀ j x, (L.cells ys)[j]? = some x → w.cell? (ad.add j) = some x := fun j x hx => by
      rcases h4 with rfl | ⟨b, off, _, hA, hc⟩
      · simp [Lay.cells] at hx
      · cases hA
        rw [Addr.add_lit]
        exact hc j x hx
    have hone : ∀ x ∈ L.cells ys, x.oneCell' = true := fun x hx => by
      obtain ⟨y, hy, hx⟩ := List.mem_flatMap.1 hx
      exact h1 y hy x hx
    have hln : (L.cells ys).length = ys.length * i0.size := by rw [cells_len, hz1]
    have hbytes : (xs.length + ys.length) * i0.bytes ≤ 140737488355328 := by
      rw [hz2]
      exact Nat.le_trans (Nat.mul_le_mul hb hby) (by decide)
    rcases hown.2 with ⟨rfl, h0⟩ | ⟨g, c, cur, rfl, hbg, hgg, hnc, hcm, hcs, htake⟩
    · rcases Nat.eq_zero_or_pos ys.length with hm | hm
      · have hy : ys = [] := List.eq_nil_of_length_eq_zero hm
        subst hy
        have hr' : (Builtin.append_ #[t, t] ty #[.slice none 0 0, .slice (some ad) ([] : List α).length cap]).run P w = .ok (.slice none 0 0) w := by
          simp [Builtin.append_, run_underlying ht, sizeOf, typeInfo, hi, Builtin.lenOf, Builtin.firstCells, loadCells, loadCellsFrom]
        rw [hr'] at hr
        injection hr with e1 _
        rw [← e1]
        exact .inl rfl
      · have hr' := run_append_nil (P := P) w t ty e i0 z ht hi hz0 ad ys.length cap (L.cells ys) hln hnews (by omega) (by omega) (by rw [h0, Nat.zero_add] at hbytes; omega)
        rw [hr'] at hr
        injection hr with e1 _
        rw [← e1]
        exact .inr rfl
    · by_cases hroom : xs.length + ys.length ≤ c
      · have hfit : xs.length * i0.size + (L.cells ys).length ≤ cur.size := by rw [hln, hcs, ← hz1, ← Nat.add_mul]; exact Nat.mul_le_mul_right _ hroom
        have hr' := run_append_room (P := P) w t ty e i0 ht hi g xs.length c cur hgg ad ys.length cap (L.cells ys) hln hnews hone hroom hfit
        rw [hr'] at hr
        injection hr with e1 _
        rw [← e1]
        exact .inl rfl
      · have holds : ∀ j u, (L.cells xs)[j]? = some u → w.cell? ((⟨g, 0, none⟩ : Addr).add j) = some u := hown.cells (g := g) rfl
        have hr' := run_append_grow (P := P) w t ty e i0 z ht hi hz0 ⟨g, 0, none⟩ xs.length c (L.cells xs) (by rw [cells_len, hz1]) holds ad ys.length cap (L.cells ys) hln hnews (by omega) (by omega) (growslice_fits (by omega) hbytes)
        rw [hr'] at hr
        injection hr with e1 _
        rw [← e1]
        exact .inr rfl

theorem wpList_app2 {P : Program} (e : TypeId) (z : Value) (bytes : Nat) {t : TypeId} (hinfo : (P.info? e).map (fun i => (i.zero, i.size, i.bytes)) = some (some z, L.size, bytes)) (ht : P.underlying t = some (.slice e)) (hz : z.cells.size = L.size) (hsz : 0 < L.size) (hby : bytes ≤ 1000)
    (w : World) {ops : Array Oper} {rest : List Oper} {o : Oper} {a : Act} {Q : Exit → Act → World → Prop} (hgd : o.guard = none) (s x : Operand)
    (hop : o.op = Op.call { callee := Callee.builtin Builtin.append, args := #[s, x], argTypes := #[t, t] }) (base : Nat) (v u : Value) (xs ys : List α) (B : Nat) (hs : a.eval s = v) (hown : w.ownsRow base e L.size v xs.length (L.cells xs))
    (hx : a.eval x = u) (hu : Lies L w B u ys) (h1 : ∀ y ∈ ys, ∀ u ∈ L.enc y, u.oneCell' = true) (hb : xs.length + ys.length ≤ 10000000) (hbase : base ≤ w.heap.size)
    (hK : ∀ v' w', w'.ownsRow base e L.size v' (xs ++ ys).length (L.cells (xs ++ ys)) → w.grownBy w' v.ownBlock → (v'.ownBlock = v.ownBlock ∨ v'.ownBlock = some w.heap.size) → wpList P ops Q rest (a.put o.dst v') w') :
    wpList P ops Q (o :: rest) a w := by
  refine wpList_plain hgd fun K hK' => ?_
  obtain ⟨v', w', hr, h1, h2, h3⟩ := run_app2 t o.type e z bytes hinfo ht hz hsz hby w hown hu h1 hb hbase
  unfold Oper.wp execOp
  simp only [hop, resolve, invoke, builtin, Sem.run_bind, Sem.run_pure, Result.andThen_ok, List.map_toArray, List.map_cons, List.map_nil, hs, hx, hr]
  exact hK' _ _ (hK v' w' h1 h2 h3)

/-- What lies in a block that isn't written stays. -/
theorem Lies.off {w w' : World} {v : Value} {xs : List α} {row : Option Nat} (h : Lies L w w.heap.size v xs) (hg : w.grownBy w' row) (hne : ∀ b, v.ownBlock = some b → some b ≠ row) : Lies L w' w'.heap.size v xs := by
  obtain ⟨A, cap, rfl, h1, h2, h3⟩ := h
  refine ⟨A, cap, rfl, h1, h2, ?_⟩
  rcases h3 with h3 | ⟨b, off, hb, rfl, hc⟩
  · exact .inl h3
  · refine .inr ⟨b, off, Nat.lt_of_lt_of_le hb hg.size, rfl, fun j u hu => (World.cell?_of_block (a := ⟨b, off + j, none⟩) (hg.block b hb (hne b rfl))).trans (hc j u hu)⟩
end

end Go.Proofs.Rw
