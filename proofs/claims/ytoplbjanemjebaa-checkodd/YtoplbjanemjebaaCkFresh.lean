/- Levels of buckets whose rows are the call's own, each by itself: what is written into one bucket leaves all others as they are. -/
import Derived.Test.YtoplbjanemjebaaXCut
namespace Go.Proofs.Ytoplbjanemjebaa
open Go.RowKit Go.Shelf Go.Proofs.Rw Go.Proofs.Lh

theorem fown_ty {w : World} {base : Nat} {e : TypeId} {size n : Nat} {v : Value} {cs : List Value} (h : w.ownsRow base e size v n cs) {b : Nat} (hb : v.ownBlock = some b) : Ty w e b := by
  rcases h.2 with ⟨rfl, _⟩ | ⟨g, cap, cur, rfl, _, hg, _⟩
  · cases hb
  · injection hb with hb
    have : g = b := hb
    subst this
    exact ⟨cur, _, hg⟩
theorem fown_base {w : World} {base base' : Nat} {v : Value} {xs : List Sp} (h : Own w base v xs) (hb : ∀ b, v.ownBlock = some b → base' ≤ b) : Own w base' v xs := by
  refine ⟨h.1, ?_⟩
  rcases h.2 with h1 | ⟨g, cap, cur, hv, hg, r⟩
  · exact .inl h1
  · refine .inr ⟨g, cap, cur, hv, hb g (by rw [hv]; rfl), r⟩

/-- Rows of buckets, all of the call's own, no two in one block. -/
def Fresh (w : World) (base : Nat) (v : Value) (ls : Lv) : Prop :=
  ∃ vs : List Value, w.ownsRow base 45 1 v vs.length vs ∧ vs.length = ls.length ∧
    (∀ (i : Nat) (u : Value) (l : List Sp), vs[i]? = some u → ls[i]? = some l → Own w base u l ∧ ∀ b, u.ownBlock = some b → v.ownBlock ≠ some b) ∧
    ∀ (i j : Nat) (u u' : Value) (b : Nat), i ≠ j → vs[i]? = some u → vs[j]? = some u' → u.ownBlock = some b → u'.ownBlock ≠ some b

section
variable {w w' : World} {base : Nat} {v : Value} {ls : Lv}

theorem Fresh.nil (w : World) (base : Nat) : Fresh w base (.slice none 0 0) [] := ⟨[], World.ownsRow_nil _ _ _ _, rfl, fun i u l hu _ => (by simp at hu), fun i j u u' b _ hu => (by simp at hu)⟩
theorem Fresh.own (h : Fresh w base v ls) : OwnL (fun b => base ≤ b) w base v ls := by
  obtain ⟨vs, h1, h2, h3, _⟩ := h
  refine ⟨vs, h1, h2, fun i u l hu hl => ?_⟩
  obtain ⟨a1, a2⟩ := h3 i u l hu hl
  exact ⟨Lies.of_own (L := spL) a1, fun _ b hb => ⟨(a1.lt b hb).1, a2 b hb, fown_ty a1 hb⟩⟩
theorem Fresh.grow (h : Fresh w base v ls) (hb : Below w.heap.size w w') : Fresh w' base v ls := by
  obtain ⟨vs, h1, h2, h3, h4⟩ := h
  exact ⟨vs, own_below h1 hb, h2, fun i u l hu hl => ⟨own_below (h3 i u l hu hl).1 hb, (h3 i u l hu hl).2⟩, h4⟩
/-- Another block is written. -/
theorem Fresh.off {x : Nat} (h : Fresh w base v ls) (hg : w.grownBy w' (some x)) (hx : x < base) : Fresh w' base v ls := by
  obtain ⟨vs, h1, h2, h3, h4⟩ := h
  refine ⟨vs, h1.kept hg (.inr fun e => by have := (h1.lt x e).1; omega), h2, fun i u l hu hl => ⟨?_, (h3 i u l hu hl).2⟩, h4⟩
  have a1 := (h3 i u l hu hl).1
  exact a1.kept hg (.inr fun e => by have := (a1.lt x e).1; omega)
theorem Fresh.lower (h : Fresh w base v ls) {base' : Nat} (hb : base' ≤ base) : Fresh w base' v ls := by
  obtain ⟨vs, h1, h2, h3, h4⟩ := h
  refine ⟨vs, ⟨h1.1, ?_⟩, h2, fun i u l hu hl => ⟨fown_base (h3 i u l hu hl).1 fun b hbb => by have := ((h3 i u l hu hl).1.lt b hbb).1; omega, (h3 i u l hu hl).2⟩, h4⟩
  rcases h1.2 with h5 | ⟨g, cap, cur, hv, hg, r⟩
  · exact .inl h5
  · exact .inr ⟨g, cap, cur, hv, by omega, r⟩

/-- One more row, that was made behind all the others, is appended; x is a literal of it. -/
theorem run_fresh (ty : TypeId) (W : World) (B C : Nat) (v x u : Value) (ls : Lv) (l : List Sp) (h : Fresh W base v ls) (hx : Lies valL W C x [u]) (hB : ∀ b, v.ownBlock = some b → b < B) (hB2 : ∀ (vs : List Value), W.ownsRow base 45 1 v vs.length vs → ∀ (i : Nat) (x : Value), vs[i]? = some x → ∀ b, x.ownBlock = some b → b < B)
    (hu : Own W base u l) (hub : ∀ b, u.ownBlock = some b → B ≤ b) (hl : ls.length ≤ 1000000) (hbase : base ≤ W.heap.size) :
    ∃ v' w', (Builtin.append_ #[22, 22] ty #[v, x]).run Try.prog W = .ok v' w' ∧ Fresh w' base v' (ls ++ [l]) ∧ (v'.ownBlock = v.ownBlock ∨ v'.ownBlock = some W.heap.size) ∧ W.grownBy w' v.ownBlock := by
  obtain ⟨vs, h1, h2, h3, h4⟩ := h
  have hBB := hB2 vs h1
  obtain ⟨v', w', hr, ho, hg, hq⟩ := run_app2 (L := valL) (P := Try.prog) 22 ty 45 _ 24 info_row Try.underlying22 rfl (show 0 < 1 by omega) (by decide) W (base := base) (v := v) (xs := vs) (ys := [u]) (by rw [valL_cells]; exact h1) hx
    (fun y hy c hc => by
      rw [List.mem_singleton.1 hy] at hc
      rw [show valL.enc u = [u] from rfl, List.mem_singleton] at hc
      rw [hc]
      exact lies_one (Lies.of_own (L := spL) hu)) (by simp; omega) hbase
  rw [valL_cells] at ho
  refine ⟨v', w', hr, ⟨vs ++ [u], ho, by simp [h2], fun i x m hx hm => ?_, fun i j x x' b hij hx hx' hb => ?_⟩, hq, hg⟩
  · have key : ∀ (x : Value) (m : List Sp), Own W base x m → (∀ b, x.ownBlock = some b → v.ownBlock ≠ some b) → Own w' base x m ∧ ∀ b, x.ownBlock = some b → v'.ownBlock ≠ some b := by
      intro x m a1 a2
      refine ⟨a1.kept hg ?_, fun b hb e => ?_⟩
      · by_cases hv : x.ownBlock = none
        · exact .inl hv
        · obtain ⟨b, hb⟩ := Option.ne_none_iff_exists'.1 hv
          exact .inr fun e => a2 b hb (e.symm.trans hb)
      · rcases hq with e' | e'
        · exact a2 b hb (e' ▸ e)
        · rw [e'] at e
          injection e with e
          have := (a1.lt b hb).2
          omega
    rcases Nat.lt_or_ge i vs.length with hi | hi
    · rw [List.getElem?_append_left hi] at hx
      rw [List.getElem?_append_left (by omega)] at hm
      exact key x m (h3 i x m hx hm).1 (h3 i x m hx hm).2
    · rw [List.getElem?_append_right hi] at hx
      rw [List.getElem?_append_right (by omega)] at hm
      have hi0 : i - vs.length = 0 := by
        have := (List.getElem?_eq_some_iff.1 hx).1
        simp at this
        omega
      rw [hi0] at hx
      rw [← h2, hi0] at hm
      simp at hx hm
      subst hx hm
      exact key u l hu fun b hb e => by have := hub b hb; have := hB b e; omega
  · have put : ∀ (i : Nat) (x : Value), (vs ++ [u])[i]? = some x → (i < vs.length ∧ vs[i]? = some x) ∨ (i = vs.length ∧ x = u) := by
      intro i x hx
      rcases Nat.lt_or_ge i vs.length with hi | hi
      · rw [List.getElem?_append_left hi] at hx
        exact .inl ⟨hi, hx⟩
      · rw [List.getElem?_append_right hi] at hx
        have hi0 : i - vs.length = 0 := by
          have := (List.getElem?_eq_some_iff.1 hx).1
          simp at this
          omega
        rw [hi0] at hx
        simp at hx
        exact .inr ⟨by omega, hx.symm⟩
    rcases put i x hx with ⟨hi, hx1⟩ | ⟨hi, hx1⟩
    · rcases put j x' hx' with ⟨hj, hx2⟩ | ⟨hj, hx2⟩
      · exact h4 i j x x' b hij hx1 hx2 hb
      · intro e
        rw [hx2] at e
        have := hub b e
        have := hBB i x hx1 b hb
        omega
    · rcases put j x' hx' with ⟨hj, hx2⟩ | ⟨hj, hx2⟩
      · intro e
        rw [hx1] at hb
        have := hub b hb
        have := hBB j x' hx2 b e
        omega
      · omega
theorem own_one {base base' : Nat} {v : Value} {vs vs' : List Value} (h : w.ownsRow base 45 1 v vs.length vs) (h' : w.ownsRow base' 45 1 v vs'.length vs') : vs = vs' := by
  rcases h.2 with ⟨e1, e2⟩ | ⟨g, cap, cur, e1, _, e3, _, _, _, e4⟩
  · rcases h'.2 with ⟨_, f2⟩ | ⟨g', cap', cur', f1, _⟩
    · rw [List.eq_nil_of_length_eq_zero e2, List.eq_nil_of_length_eq_zero f2]
    · rw [e1] at f1; cases f1
  · rcases h'.2 with ⟨f1, _⟩ | ⟨g', cap', cur', f1, _, f3, _, _, _, f4⟩
    · rw [f1] at e1; cases e1
    · rw [e1] at f1
      injection f1 with f1 f2 _
      injection f1 with f1
      injection f1 with f1 _ _
      subst f1
      rw [e3] at f3
      injection f3 with f3
      injection f3 with f3 _ _
      subst f3
      rw [← e4, ← f4, f2]
/-- The rows of levels that were there ahead lie below. -/
theorem Fresh.lows (h : Fresh w base v ls) : ∀ (vs : List Value), w.ownsRow base 45 1 v vs.length vs → ∀ (i : Nat) (x : Value), vs[i]? = some x → ∀ b, x.ownBlock = some b → b < w.heap.size := by
  obtain ⟨vs, h1, h2, h3, _⟩ := h
  intro vs' h1' i x hx b hb
  rw [← own_one h1 h1'] at hx
  have hi : i < ls.length := by have := (List.getElem?_eq_some_iff.1 hx).1; omega
  exact ((h3 i x ls[i] hx (List.getElem?_eq_getElem hi)).1.lt b hb).2
theorem Fresh.lows2 (h : Fresh w base v ls) (hb : Below w.heap.size w w') : ∀ (vs : List Value), w'.ownsRow base 45 1 v vs.length vs → ∀ (i : Nat) (x : Value), vs[i]? = some x → ∀ b, x.ownBlock = some b → b < w.heap.size := by
  obtain ⟨vs, h1, h2, h3, h4⟩ := h
  intro vs' h1' i x hx b hbb
  rw [← own_one (own_below h1 hb) h1'] at hx
  exact Fresh.lows ⟨vs, h1, h2, h3, h4⟩ vs h1 i x hx b hbb
theorem Fresh.lt (h : Fresh w base v ls) : ∀ b, v.ownBlock = some b → base ≤ b ∧ b < w.heap.size := by
  obtain ⟨vs, h1, _⟩ := h
  exact h1.lt
theorem Fresh.form (h : Fresh w base v ls) : ∃ A cap, v = .slice A ls.length cap ∧ ls.length ≤ cap ∧ cap ≤ maxLen := h.own.form

/-- The operation, for the walk. -/
theorem wpList_fresh (W : World) {ops : Array Oper} {rest : List Oper} {o : Oper} {a : Act} {Q : Exit → Act → World → Prop} (hgd : o.guard = none) (s x : Operand)
    (hop : o.op = Op.call { callee := Callee.builtin Builtin.append, args := #[s, x], argTypes := #[22, 22] }) (v vx u : Value) (ls : Lv) (l : List Sp) (hs : a.eval s = v) (hxx : a.eval x = vx) {C : Nat} (hx : Lies valL W C vx [u])
    (B : Nat) (h : Fresh W base v ls) (hB : ∀ b, v.ownBlock = some b → b < B) (hB2 : ∀ (vs : List Value), W.ownsRow base 45 1 v vs.length vs → ∀ (i : Nat) (x : Value), vs[i]? = some x → ∀ b, x.ownBlock = some b → b < B)
    (hu : Own W base u l) (hub : ∀ b, u.ownBlock = some b → B ≤ b) (hl : ls.length ≤ 1000000) (hbase : base ≤ W.heap.size)
    (hK : ∀ v' w', Fresh w' base v' (ls ++ [l]) → (v'.ownBlock = v.ownBlock ∨ v'.ownBlock = some W.heap.size) → W.grownBy w' v.ownBlock → wpList Try.prog ops Q rest (a.put o.dst v') w') :
    wpList Try.prog ops Q (o :: rest) a W := by
  refine wpList_plain hgd fun K hK' => ?_
  obtain ⟨v', w', hr, h1, h2, h3⟩ := run_fresh (base := base) o.type W B C v vx u ls l h hx hB hB2 hu hub hl hbase
  unfold Oper.wp execOp
  simp only [hop, resolve, invoke, builtin, Sem.run_bind, Sem.run_pure, Result.andThen_ok, List.map_toArray, List.map_cons, List.map_nil, hs, hxx, hr]
  exact hK' _ _ (hK v' w' h1 h2 h3)

/-- A copy of a row: 'append([]Span{}, l...)'. -/
theorem run_copy (ty : TypeId) (W : World) (g base B : Nat) (u : Value) (l : List Sp) (h0 : l ≠ []) (hl : l.length ≤ 1000000) (hv : Own W base (.slice (some ⟨g, 0, none⟩) 0 0) []) (hu : Lies spL W B u l) :
    ∃ v' w', (Builtin.append_ #[45, 45] ty #[.slice (some ⟨g, 0, none⟩) 0 0, u]).run Try.prog W = .ok v' w' ∧ Own w' W.heap.size v' l ∧ Below W.heap.size W w' := by
  have hbase : base ≤ W.heap.size := Nat.le_of_lt (Nat.lt_of_le_of_lt (hv.lt g rfl).1 (hv.lt g rfl).2)
  obtain ⟨v', w', hr, ho, hg⟩ := run_app (L := spL) (P := Try.prog) 45 ty 44 _ 16 info_sp Try.underlying45 rfl (by decide) (by decide) W (base := base) (xs := []) (ys := l) hv hu (sp_one _) (by simp; omega) hbase
  obtain ⟨i0, hi, hz0, hz1, hz2⟩ := info_parts info_sp
  obtain ⟨A, cap, rfl, h2, h3, h4⟩ := hu
  have hpos := List.length_pos_iff.2 h0
  rcases h4 with h4 | ⟨b, off, _, rfl, hc⟩
  · exact absurd h4 h0
  have hr' := run_append_grow (P := Try.prog) (w := W) 45 ty 44 i0 _ Try.underlying45 hi hz0 ⟨g, 0, none⟩ 0 0 [] (by simp) (fun j v hj => (by simp at hj)) ⟨b, off, none⟩ l.length cap (spL.cells l) (by rw [cells_len, hz1]; rfl)
    (fun j x hx => by rw [Addr.add_lit]; exact hc j x hx) (by omega) (by omega) (growslice_fits (by omega) (by rw [hz2]; omega))
  rw [hr'] at hr
  injection hr with e1 e2
  refine ⟨v', w', by rw [hr', ← e1, ← e2], fown_base ho fun b hb => ?_, ?_⟩
  · rw [← e1] at hb
    have hb' : some W.heap.size = some b := hb
    injection hb' with hb'
    omega
  · rw [← e2]
    exact (Below.refl _ W).drew.alloc (by simp) _

/-- A bucket of one row is set. -/
theorem Fresh.at {g n c : Nat} (h : Fresh w base (.slice (some ⟨g, 0, none⟩) n c) ls) (i : Nat) (hi : i < ls.length) (h0 : 0 < ls[i].length) :
    ∃ gi ci, w.cell? ⟨g, i, none⟩ = some (.slice (some ⟨gi, 0, none⟩) ls[i].length ci) ∧ ls[i].length ≤ ci ∧ ci ≤ maxLen ∧ base ≤ gi ∧ gi < w.heap.size ∧ gi ≠ g ∧ Ty w 44 gi ∧
      (∀ j, j < ls[i].length → (∃ x, w.cell? ⟨gi, j * 2, none⟩ = some x) ∧ (∃ x, w.cell? ⟨gi, j * 2 + 1, none⟩ = some x) ∧ w.frozen? ⟨gi, j * 2, none⟩ = false ∧ w.frozen? ⟨gi, j * 2 + 1, none⟩ = false) ∧
      ∀ j a b, Levs ((w.setCell ⟨gi, j * 2, none⟩ (.int .u64 ((a : Nat) : Int))).setCell ⟨gi, j * 2 + 1, none⟩ (.int .u64 ((b : Nat) : Int))) w.heap.size (.slice (some ⟨g, 0, none⟩) n c) (ls.set i (ls[i].set j (a, b))) := by
  obtain ⟨vs, h1, h2, h3, h4⟩ := h
  have hn : n = vs.length := own_len h1
  subst hn
  have hiv : i < vs.length := by omega
  obtain ⟨o1, o2⟩ := h3 i vs[i] ls[i] (List.getElem?_eq_getElem hiv) (List.getElem?_eq_getElem hi)
  have hd := h4 i
  have e := h1.cellAt i (by omega)
  rw [List.getElem?_eq_getElem hiv] at e
  rcases o1.2 with ⟨_, e0⟩ | ⟨gi, ci, cur, hv, hgb, hgi, hc1, hc2, hc3, hc4⟩
  · omega
  rw [hv] at e o1 o2
  have hvi : vs[i]? = some (.slice (some ⟨gi, 0, none⟩) ls[i].length ci) := by rw [List.getElem?_eq_getElem hiv, hv]
  have ob := o1.lt gi rfl
  have hne : gi ≠ g := fun e => o2 gi rfl (by rw [e]; rfl)
  refine ⟨gi, ci, e, hc1, hc2, ob.1, ob.2, hne, fown_ty o1 rfl, fun j hj => ?_, fun j a b => ?_⟩
  · have e0 := o1.cellAt (j * 2) (by omega)
    have e1 := o1.cellAt (j * 2 + 1) (by omega)
    have hcl : (spL.cells ls[i]).length = ls[i].length * 2 := by rw [cells_len]; rfl
    rw [List.getElem?_eq_getElem (by omega)] at e0 e1
    exact ⟨⟨_, e0⟩, ⟨_, e1⟩, o1.frozenAt _, o1.frozenAt _⟩
  · obtain ⟨s1, s2⟩ := o1.stored (j * 2) (.int .u64 (a : Int))
    obtain ⟨s3, s4⟩ := s1.stored (j * 2 + 1) (.int .u64 (b : Int))
    have hgr := grown_trans s2 s4
    obtain ⟨w2, hw2⟩ : ∃ w2, (w.setCell ⟨gi, j * 2, none⟩ (.int .u64 (a : Int))).setCell ⟨gi, j * 2 + 1, none⟩ (.int .u64 (b : Int)) = w2 := ⟨_, rfl⟩
    have hs : w2.heap.size = w.heap.size := by rw [← hw2]; simp [World.setCell]
    rw [hw2] at s3 hgr
    rw [hw2, ← hs]
    refine OwnLevs.levs (Z := fun b => base ≤ b) (base := base) ⟨vs, h1.kept hgr (.inr fun e => hne (by injection e with e; exact e.symm)), by simp [h2], fun k u l hu hl => ?_⟩
    rw [List.getElem?_set] at hl
    by_cases hik : i = k
    · subst hik
      rw [if_pos rfl, if_pos hi] at hl
      injection hl with hl
      subst hl
      rw [hvi] at hu
      injection hu with hu
      subst hu
      have s5 : Own w2 base (.slice (some ⟨gi, 0, none⟩) ls[i].length ci) (ls[i].set j (a, b)) := by
        unfold Own
        rw [List.length_set, cells_set]
        exact s3
      exact ⟨Lies.of_own (L := spL) s5, fun _ b hb => ⟨(s5.lt b hb).1, o2 b hb, fown_ty s5 hb⟩⟩
    · rw [if_neg hik] at hl
      obtain ⟨a1, a2⟩ := h3 k u l hu hl
      have a3 : Own w2 base u l := a1.kept hgr (.inr fun e => hd k _ u gi hik hvi hu rfl e)
      exact ⟨Lies.of_own (L := spL) a3, fun _ b hb => ⟨(a3.lt b hb).1, a2 b hb, fown_ty a3 hb⟩⟩
end

end Go.Proofs.Ytoplbjanemjebaa
