/- The contract of hist.refusal. · The contract of the function that hist.reached tells: it is ranged over. · The contract of hist.Add. · The contract of hist.Add: the walks. -/
import Derived.Test.YtmdknedngiggdaaJ04
import Derived.Test.YtmdknedngiggdaaJ05
section
/- The contract of hist.refusal. -/
namespace Go.Proofs.Ytmdknedngiggdaa
open Go.RowKit Go.Shelf Go.Proofs.Rw Go.Proofs.Lh Go.Proofs.Rn

theorem box3 {W : World} {b : Nat} {x y z : Value} {t : TypeId} (h : W.heap[b]? = some (.cells #[x, y, z] t)) : W.cell? ⟨b, 0, none⟩ = some x ∧ W.cell? ⟨b, 1, none⟩ = some y ∧ W.cell? ⟨b, 2, none⟩ = some z := by simp [World.cell?, h]

end Go.Proofs.Ytmdknedngiggdaa
end
section
/- The contract of the function that hist.reached tells: it is ranged over. -/
namespace Go.Proofs.Ytmdknedngiggdaa
open Go.RowKit Go.Shelf Go.Proofs.Rw Go.Proofs.Lh Go.Proofs.Rn Go.Proofs.Rf
open Go.Proofs.Lm (stay went leftN)

attribute [local go_sem] Oper.semAt_some

/-- What a round keeps: blocks below B, and all cells but those of slices of buckets, and of slices of these. -/
structure Kt (B : Nat) (W W' : World) : Prop where
  size : W.heap.size ≤ W'.heap.size
  block : ∀ b, b < B → W'.heap[b]? = W.heap[b]?
  typed : ∀ (b : Nat) (cs : Array Value) (t : TypeId) (fr : Nat × Nat), W.heap[b]? = some (Obj.cells cs t fr) → t ≠ 65 → t ≠ 22 → W'.heap[b]? = W.heap[b]?
theorem Kt.refl (B : Nat) (W : World) : Kt B W W := ⟨Nat.le_refl _, fun _ _ => rfl, fun _ _ _ _ _ _ _ => rfl⟩
theorem Kt.trans {B : Nat} {X Y Z : World} (h : Kt B X Y) (k : Kt B Y Z) : Kt B X Z :=
  ⟨Nat.le_trans h.size k.size, fun b hb => (k.block b hb).trans (h.block b hb), fun b cs t fr e h1 h2 => (k.typed b cs t fr ((h.typed b cs t fr e h1 h2).trans e) h1 h2).trans (h.typed b cs t fr e h1 h2)⟩
theorem Kt.put {B : Nat} {w : World} (hB : B ≤ w.heap.size) (W : World) (l : Nat) (o o' : Obj) (hl : w.heap.size ≤ l) (ho : W.heap[l]? = some o) (hc : o.isCells = false) : Kt B W (W.putObj l o') := by
  refine ⟨by simp, fun b hb => World.putObj_heap_other (by omega), fun b cs t fr e _ _ => World.putObj_heap_other fun e2 => ?_⟩
  subst e2
  rw [e] at ho
  injection ho with ho
  rw [← ho] at hc
  cases hc
theorem Kt.of_below {B : Nat} {W W' : World} (h : Below W.heap.size W W') (hB : B ≤ W.heap.size) : Kt B W W' := ⟨h.size, fun b hb => h.block b (by omega), fun b _ _ _ e _ _ => h.block b (Array.getElem?_eq_some_iff.1 e).1⟩
theorem own_base {w : World} {base base' : Nat} {v : Value} {xs : List Sp} (h : Own w base v xs) (hb : base' ≤ base) : Own w base' v xs := by
  refine ⟨h.1, ?_⟩
  rcases h.2 with h4 | ⟨g, cap, cur, hv, hg, r⟩
  · exact .inl h4
  · exact .inr ⟨g, cap, cur, hv, by omega, r⟩
theorem own_kt {B : Nat} {w w' : World} {base : Nat} {v : Value} {xs : List Sp} (h : Own w base v xs) (hk : Kt B w w') : Own w' base v xs := by
  refine ⟨h.1, ?_⟩
  rcases h.2 with h4 | ⟨g, cap, cur, hv, hg, hh, r⟩
  · exact .inl h4
  · exact .inr ⟨g, cap, cur, hv, hg, (hk.typed g _ _ _ hh (by decide) (by decide)).trans hh, r⟩
theorem own_nw {w : World} {b n : Nat} {A : Option Addr} {xs : List Sp} (h : Own w b (.slice A xs.length xs.length) xs) (e : xs.length = n) : Own w b (.slice A n n) xs := by
  subst e
  exact h

/-- The round k: the level k as it is then, in new memory. -/
def PxR (N0 : Nat) (R : Lv) (k : Nat) (x : Yl) (W : World) : Prop := k < R.length ∧ x.i = k ∧ x.n = (lev R k).length ∧ (∃ b1, x.A = some ⟨b1, 0, none⟩ ∧ N0 ≤ b1) ∧ Own W N0 (.slice x.A x.n x.c) (lev R k)
theorem PxR.put {N0 : Nat} {R : Lv} {w : World} (k : Nat) (x : Yl) (W : World) (l : Nat) (o o' : Obj) (_ : w.heap.size ≤ l) (ho : W.heap[l]? = some o) (hc : o.isCells = false) (h : PxR N0 R k x W) : PxR N0 R k x (W.putObj l o') :=
  ⟨h.1, h.2.1, h.2.2.1, h.2.2.2.1, ownsRow_putObj h.2.2.2.2 o' ho hc⟩
theorem pxR {N0 j b1 : Nat} {R : Lv} {st : List Sp} {wr wy : World} (hj : j < R.length) (hst : st = lev R j) (o1 : Own wy wr.heap.size (.slice (some ⟨b1, 0, none⟩) st.length st.length) st) (hz : N0 ≤ wr.heap.size) : PxR N0 R j ⟨j, some ⟨b1, 0, none⟩, st.length, st.length⟩ wy := by
  subst hst
  exact ⟨hj, rfl, rfl, ⟨b1, rfl, Nat.le_trans hz (o1.lt b1 rfl).1⟩, own_base o1 hz⟩

theorem room_rm (k j : Nat) : roomOf (leastI k j + 1) = rm k j := by
  unfold roomOf leastI rm
  by_cases h : j = 0
  · subst h
    simp
    omega
  · rw [if_neg h, if_neg (by omega)]
    omega
theorem least_small (k j : Nat) (hk : k ≤ 1024) : leastI k j + 1 ≤ 1000000 := by
  unfold leastI
  split <;> omega

end Go.Proofs.Ytmdknedngiggdaa
end
section
/- The contract of hist.Add. -/
namespace Go.Proofs.Ytmdknedngiggdaa
open Go.RowKit Go.Shelf Go.Proofs.Rw Go.Proofs.Lh Go.Proofs.Rn

attribute [local go_sem] Oper.semAt_some

theorem cell_cells {w : World} {a : Addr} {v : Value} (h : w.cell? a = some v) : ∃ o : Obj, w.heap[a.block]? = some o ∧ o.isCells = true := by
  unfold World.cell? at h
  cases ho : w.heap[a.block]? with
  | none => simp [ho] at h
  | some o => exact ⟨o, rfl, by cases o <;> simp_all [Obj.isCells]⟩
/-- What isn't cells is written. -/
theorem lies_other {w w' : World} {v : Value} {xs : List Sp} {row : Option Nat} (h : Lies spL w w.heap.size v xs) (hg : w.grownBy w' row) (hr : ∀ r, row = some r → ∃ o : Obj, w.heap[r]? = some o ∧ o.isCells = false) : Lies spL w' w'.heap.size v xs := by
  refine h.off2 hg fun hn b hb e => ?_
  obtain ⟨A, cap, rfl, _, _, h6⟩ := h
  rcases h6 with h6 | ⟨b', off, hb', rfl, hc⟩
  · exact hn h6
  · injection hb with hb
    have hb2 : b' = b := hb
    subst hb2
    cases xs with
    | nil => exact hn rfl
    | cons x xs =>
      obtain ⟨o, ho, hcl⟩ := cell_cells (hc 0 (.int .u64 x.1) rfl)
      obtain ⟨o', ho', hcl'⟩ := hr b' e.symm
      have ho2 : w.heap[b']? = some o := ho
      rw [ho2] at ho'
      injection ho' with ho'
      rw [ho', hcl'] at hcl
      cases hcl
theorem levs_other {T : TypeId} {Z : Nat → Prop} {w w' : World} {base : Nat} {v : Value} {ls : Lv} {row : Option Nat} (h : OwnLevs T Z w base v ls) (hg : w.grownBy w' row) (hr : ∀ r, row = some r → ∃ o : Obj, w.heap[r]? = some o ∧ o.isCells = false) : OwnLevs T Z w' base v ls := by
  obtain ⟨vs, h1, h2, h3⟩ := h
  refine ⟨vs, h1.kept hg ?_, h2, fun i u l hu hl => ⟨lies_other (h3 i u l hu hl).1 hg hr, fun hn b hb => ?_⟩⟩
  · rcases h1.2 with ⟨rfl, _⟩ | ⟨g, cap, cur, rfl, _, hgb, _⟩
    · exact .inl rfl
    · refine .inr fun e => ?_
      obtain ⟨o, ho, hc⟩ := hr g (by simpa [Value.ownBlock] using e.symm)
      rw [hgb] at ho
      injection ho with ho
      rw [← ho] at hc
      cases hc
  · obtain ⟨a1, a2, a3⟩ := (h3 i u l hu hl).2 hn b hb
    refine ⟨a1, a2, a3.keep (hg.block b a3.lt fun e => ?_)⟩
    obtain ⟨cs, fr, h5⟩ := a3
    obtain ⟨o, ho, hc⟩ := hr b e.symm
    rw [h5] at ho
    injection ho with ho
    rw [← ho] at hc
    cases hc
/-- The row's block holds slices. -/
theorem levs_typed {T : TypeId} {Z : Nat → Prop} {w : World} {base g : Nat} {v : Value} {ls : Lv} (h : OwnLevs T Z w base v ls) (hv : v.ownBlock = some g) : ∃ cur, w.heap[g]? = some (.cells cur T (0, 0)) := by
  obtain ⟨vs, h1, _⟩ := h
  rcases h1.2 with ⟨rfl, _⟩ | ⟨g', cap, cur, rfl, _, hgb, _⟩
  · cases hv
  · injection hv with hv
    have : g' = g := hv
    subst this
    exact ⟨cur, hgb⟩
/-- Blocks of unlike types are two. -/
theorem typed_ne {w : World} {a b : Nat} {ca cb : Array Value} {ta tb : TypeId} {fa fb : Nat × Nat} (ha : w.heap[a]? = some (.cells ca ta fa)) (hb : w.heap[b]? = some (.cells cb tb fb)) (hne : ta ≠ tb) : a ≠ b := by
  rintro rfl
  rw [ha] at hb
  injection hb with hb
  injection hb with _ hb _
  exact hne hb
theorem own_typed {w : World} {base b : Nat} {n c : Nat} {xs : List Sp} (h : Own w base (.slice (some ⟨b, 0, none⟩) n c) xs) : ∃ cur, w.heap[b]? = some (.cells cur 73 (0, 0)) := by
  rcases h.2 with ⟨e, _⟩ | ⟨g', cap, cur, e, _, hgb, _⟩
  · cases e
  · injection e with e _ _
    injection e with e
    injection e with e _ _
    subst e
    exact ⟨cur, hgb⟩
theorem Kt.grown {B x : Nat} {W W' : World} (hg : W.grownBy W' (some x)) (hx : B ≤ x) (hB : B ≤ W.heap.size) (ht : ∃ cs t fr, W.heap[x]? = some (.cells cs t fr) ∧ (t = 65 ∨ t = 22)) : Kt B W W' := by
  refine ⟨hg.size, fun b hb => hg.block b (by omega) (by simp; omega), fun b cs t fr e h1 h2 => hg.block b (Array.getElem?_eq_some_iff.1 e).1 fun e2 => ?_⟩
  injection e2 with e2
  subst e2
  obtain ⟨cs', t', fr', h3, h4⟩ := ht
  rw [e] at h3
  injection h3 with h3
  injection h3 with _ h3 _
  rcases h4 with h4 | h4
  · exact h1 (h3.trans h4)
  · exact h2 (h3.trans h4)

/-- The levels behind j rounds. -/
def mix (R ls : Lv) (j : Nat) : Lv := R.take j ++ ls.drop j
theorem mix_set {R ls : Lv} {j : Nat} (hj : j < R.length) (hl : j < ls.length) : (mix R ls j).set j (lev R j) = mix R ls (j + 1) := by
  unfold mix
  have h1 : (R.take j).length = j := by simp; omega
  rw [List.set_append_right _ _ (by omega), h1, Nat.sub_self, drop_lev hl, List.set_cons_zero, List.take_succ_eq_append_getElem hj, ← lev_lt hj, List.append_assoc]
  rfl
theorem mix_app {R ls : Lv} {j : Nat} (hj : j < R.length) (hl : ls.length ≤ j) : (mix R ls j ++ [[]]).set j (lev R j) = mix R ls (j + 1) := by
  unfold mix
  have h1 : (R.take j).length = j := by simp; omega
  rw [List.drop_of_length_le hl, List.drop_of_length_le (by omega), List.append_nil, List.append_nil, List.set_append_right _ _ (by omega), h1, Nat.sub_self, List.set_cons_zero, List.take_succ_eq_append_getElem hj, ← lev_lt hj]
theorem mix_len {R ls : Lv} {j : Nat} (hj : j ≤ R.length) : (mix R ls j).length = max j ls.length := by
  unfold mix
  simp
  omega

/-- What stays from round to round of Add: the boxes of its own. -/
structure AddQ (w0 : World) (hb : Value) (W : World) : Prop where
  hist : ∃ k g s, hb = hv k g s ∧ W.heap[w0.heap.size]? = some (.cells #[.int .i64 k, .int .i64 g, s] 30)
  res : W.heap[w0.heap.size + 1]? = some (.cells #[.int .i64 0, .int .i64 0, .slice none 0 0] 30)
  below : Below w0.heap.size w0 W
/-- What holds between two rounds of Add. -/
structure AddI (w0 : World) (base bx N0 : Nat) (hb : Value) (R ls : Lv) (j : Nat) (W : World) : Prop where
  rows : ∃ v, Boxed W bx 22 v ∧ OwnL (fun b => b < w0.heap.size ∨ N0 ≤ b) W base v (mix R ls j)
  le : j ≤ R.length
  q : AddQ w0 hb W
/-- The blocks' places. -/
structure AddP (w0 : World) (base bx N0 : Nat) : Prop where
  p1 : w0.heap.size + 2 ≤ base
  p2 : base ≤ bx
  p3 : bx < N0

theorem AddQ.keep {w0 : World} {hb : Value} {W W' : World} (h : AddQ w0 hb W) (k1 : W'.heap[w0.heap.size]? = W.heap[w0.heap.size]?) (k2 : W'.heap[w0.heap.size + 1]? = W.heap[w0.heap.size + 1]?) (hb' : Below w0.heap.size w0 W') : AddQ w0 hb W' := by
  obtain ⟨k, g, s, h3, h4⟩ := h.hist
  exact ⟨⟨k, g, s, h3, k1.trans h4⟩, k2.trans h.res, hb'⟩
theorem AddQ.grown {w0 : World} {hb : Value} {W W' : World} {row : Option Nat} (h : AddQ w0 hb W) (hg : W.grownBy W' row) (hx : ∀ x, row = some x → w0.heap.size + 2 ≤ x) : AddQ w0 hb W' := by
  obtain ⟨k, g, s, h3, h4⟩ := h.hist
  exact h.keep (hg.block _ (lt_of h4) fun e => by have := hx _ e.symm; omega) (hg.block _ (lt_of h.res) fun e => by have := hx _ e.symm; omega) (h.below.grown hg h.below.size fun x e => by have := hx x e; omega)

theorem AddI.own (w0 : World) (base bx N0 B : Nat) (hb : Value) (R ls : Lv) (hp : AddP w0 base bx N0) (hB : N0 ≤ B) : OwnFrom B (AddI w0 base bx N0 hb R ls) := by
  intro j W W' row hs hg hr
  obtain ⟨p1, p2, p3⟩ := hp
  obtain ⟨v, h1, h2⟩ := hs.rows
  exact ⟨⟨v, (hg.block bx h1.lt fun e => by have := (hr bx e.symm).1; omega).trans h1, levs_other h2 hg fun r e => (hr r e).2⟩, hs.le, hs.q.grown hg fun x e => by have := (hr x e).1; omega⟩

/-- A level is set in its place. -/
theorem AddQ.set {w0 : World} {base bx N0 B : Nat} {hb : Value} {R ls : Lv} (hp : AddP w0 base bx N0) {j : Nat} {W : World} (h : AddQ w0 hb W) {L : Lv} {g n c b1 nx cx : Nat}
    (hv : Boxed W bx 22 (.slice (some ⟨g, 0, none⟩) n c)) (ho : OwnL (fun b => b < w0.heap.size ∨ N0 ≤ b) W base (.slice (some ⟨g, 0, none⟩) n c) L) (hL : L.set j (lev R j) = mix R ls (j + 1)) (hj : j < R.length)
    (hx : Own W N0 (.slice (some ⟨b1, 0, none⟩) nx cx) (lev R j)) (hb1 : N0 ≤ b1) :
    KeepsFrom B W (W.setCell ⟨g, j, none⟩ (.slice (some ⟨b1, 0, none⟩) nx cx)) ∧ Kt w0.heap.size W (W.setCell ⟨g, j, none⟩ (.slice (some ⟨b1, 0, none⟩) nx cx)) ∧ AddI w0 base bx N0 hb R ls (j + 1) (W.setCell ⟨g, j, none⟩ (.slice (some ⟨b1, 0, none⟩) nx cx)) := by
  obtain ⟨p1, p2, p3⟩ := hp
  obtain ⟨cur, hcur⟩ := levs_typed ho (g := g) rfl
  obtain ⟨cx1, hcx⟩ := own_typed hx
  have hgb := (ho.lt g rfl)
  obtain ⟨o2, hg2⟩ := OwnLevs.set ho j (Lies.of_own (L := spL) hx) fun _ b hb => ⟨by injection hb with hb; have : b1 = b := hb; exact .inr (by omega), by injection hb with hb; have : b1 = b := hb; subst this; exact typed_ne hcx hcur (by decide), by injection hb with hb; have : b1 = b := hb; subst this; exact ⟨cx1, _, hcx⟩⟩
  rw [hL] at o2
  have hne : bx ≠ g := typed_ne hv hcur (by decide)
  refine ⟨(KeepsOthers.setCell _ _ _).from _, Kt.grown hg2 (by omega) h.below.size ⟨cur, _, _, hcur, .inl rfl⟩, ⟨_, (hg2.block bx hv.lt (by simp; omega)).trans hv, o2⟩, hj, h.grown hg2 fun x e => by cases e; omega⟩

/-- An empty level is appended, and the row is laid into its box. -/
theorem AddQ.app {w0 : World} {base bx N0 B : Nat} {hb : Value} (hp : AddP w0 base bx N0) {W w3 : World} (h : AddQ w0 hb W) {L : Lv} {v v' : Value}
    (hv : Boxed W bx 22 v) (ho : OwnL (fun b => b < w0.heap.size ∨ N0 ≤ b) W base v L) (ho3 : OwnL (fun b => b < w0.heap.size ∨ N0 ≤ b) w3 base v' (L ++ [[]])) (hg3 : (W.alloc (.cells #[.slice none 0 0] 65)).grownBy w3 v.ownBlock) :
    Boxed w3 bx 22 v ∧ Boxed (w3.setCell ⟨bx, 0, none⟩ v') bx 22 v' ∧ OwnL (fun b => b < w0.heap.size ∨ N0 ≤ b) (w3.setCell ⟨bx, 0, none⟩ v') base v' (L ++ [[]]) ∧ AddQ w0 hb (w3.setCell ⟨bx, 0, none⟩ v') ∧
      KeepsFrom B W (w3.setCell ⟨bx, 0, none⟩ v') ∧ Kt w0.heap.size W (w3.setCell ⟨bx, 0, none⟩ v') ∧ v'.ownBlock ≠ some bx ∧
      ∀ (b1 nx cx : Nat) (xs : List Sp), Own W N0 (.slice (some ⟨b1, 0, none⟩) nx cx) xs → Own (w3.setCell ⟨bx, 0, none⟩ v') N0 (.slice (some ⟨b1, 0, none⟩) nx cx) xs := by
  obtain ⟨p1, p2, p3⟩ := hp
  have hoa : OwnL (fun b => b < w0.heap.size ∨ N0 ≤ b) (W.alloc (.cells #[.slice none 0 0] 65)) base v L := ho.grow ((Below.refl _ W).alloc (Nat.le_refl _) _)
  have hva : Boxed (W.alloc (.cells #[.slice none 0 0] 65)) bx 22 v := hv.alloc _
  have hrow : ∀ x, v.ownBlock = some x → base ≤ x ∧ ∃ cur, (W.alloc (.cells #[.slice none 0 0] 65)).heap[x]? = some (.cells cur 65 (0, 0)) := fun x e => ⟨(hoa.lt x e).1, levs_typed hoa e⟩
  have hb3 : Boxed w3 bx 22 v := hva.kept hg3 fun e => by
    obtain ⟨_, cur, hcur⟩ := hrow bx e.symm
    exact typed_ne hva hcur (by decide) rfl
  have hne : v'.ownBlock ≠ some bx := fun e => by
    obtain ⟨cur, hcur⟩ := levs_typed ho3 e
    exact typed_ne hb3 hcur (by decide) rfl
  have hset := grown_set w3 bx 0 v'
  have hq1 : AddQ w0 hb (W.alloc (.cells #[.slice none 0 0] 65)) := h.grown (World.grownBy_alloc W _ none) fun x e => by cases e
  have hq3 : AddQ w0 hb w3 := hq1.grown hg3 fun x e => by have := (hrow x e).1; omega
  have kt3 : Kt w0.heap.size W w3 := by
    refine (Kt.of_below ((Below.refl _ W).alloc (Nat.le_refl _) (.cells #[.slice none 0 0] 65)) h.below.size).trans ?_
    cases hvb : v.ownBlock with
    | none =>
      rw [hvb] at hg3
      exact ⟨hg3.size, fun b hb => hg3.block b (by have := h.below.size; simp; omega) (by simp), fun b cs t fr e _ _ => hg3.block b (lt_of e) (by simp)⟩
    | some x =>
      rw [hvb] at hg3
      obtain ⟨h5, cur, hcur⟩ := hrow x hvb
      exact Kt.grown hg3 (by omega) hq1.below.size ⟨cur, _, _, hcur, .inl rfl⟩
  refine ⟨hb3, hb3.set v', ho3.off hset hne fun b hb => ?_, hq3.grown hset fun x e => by cases e; omega, ?_, kt3.trans (Kt.grown hset (by omega) hq3.below.size ⟨_, _, _, hb3, .inr rfl⟩), hne, ?_⟩
  · rcases hb with hb | hb <;> omega
  · refine (((KeepsOthers.alloc W _).trans (KeepsOthers.of_grownBy hg3 fun j o ej hj => ?_)).trans (KeepsOthers.setCell _ _ _)).from _
    obtain ⟨_, cur, hcur⟩ := hrow j ej
    rw [hcur] at hj
    cases hj
    rfl
  · intro b1 nx cx xs hx
    obtain ⟨cx1, hcx⟩ := own_typed hx
    have hx1 : Own (W.alloc (.cells #[.slice none 0 0] 65)) N0 (.slice (some ⟨b1, 0, none⟩) nx cx) xs := hx.alloc _
    have hcx1 : (W.alloc (.cells #[.slice none 0 0] 65)).heap[b1]? = some (.cells cx1 73 (0, 0)) := (Below.heap_alloc _ _ _ (lt_of hcx)).trans hcx
    have hx3 : Own w3 N0 (.slice (some ⟨b1, 0, none⟩) nx cx) xs := by
      refine hx1.kept hg3 (.inr fun e => ?_)
      obtain ⟨_, cur, hcur⟩ := hrow b1 (by rw [← e]; rfl)
      exact typed_ne hcx1 hcur (by decide) rfl
    obtain ⟨cx3, hcx3⟩ := own_typed hx3
    refine hx3.kept hset (.inr fun e => ?_)
    have e' : b1 = bx := by injection e
    exact typed_ne hcx3 hb3 (by decide) e'

end Go.Proofs.Ytmdknedngiggdaa
end
section
/- The contract of hist.Add: the walks. -/
namespace Go.Proofs.Ytmdknedngiggdaa
open Go.RowKit Go.Shelf Go.Proofs.Rw Go.Proofs.Lh Go.Proofs.Rn

attribute [local go_sem] Oper.semAt_some

theorem set3 {W : World} {b : Nat} {x y z : Value} {T : TypeId} (h : W.heap[b]? = some (.cells #[x, y, z] T)) (x' y' z' : Value) :
    (((W.setCell ⟨b, 0, none⟩ x').setCell ⟨b, 1, none⟩ y').setCell ⟨b, 2, none⟩ z').heap[b]? = some (.cells #[x', y', z'] T) := by
  rw [set1 _ (set1 _ (set1 _ h))]
  rfl
theorem below3 {W : World} {b B : Nat} {w : World} (h : Below B w W) (hb : B ≤ b) (x' y' z' : Value) : Below B w (((W.setCell ⟨b, 0, none⟩ x').setCell ⟨b, 1, none⟩ y').setCell ⟨b, 2, none⟩ z') :=
  ((h.setCell (p := ⟨b, 0, none⟩) hb _).setCell (p := ⟨b, 1, none⟩) hb _).setCell (p := ⟨b, 2, none⟩) hb _
theorem grown3 {W : World} {b : Nat} (x' y' z' : Value) : W.grownBy (((W.setCell ⟨b, 0, none⟩ x').setCell ⟨b, 1, none⟩ y').setCell ⟨b, 2, none⟩ z') (some b) :=
  grown_trans (grown_trans (grown_set _ _ _ _) (grown_set _ _ _ _)) (grown_set _ _ _ _)
theorem may_of {k : Nat} (h2 : 2 ≤ k) (h1 : k ≤ 1024) : may (k : Int) = true := by
  unfold may
  rw [decide_eq_true_iff]
  omega

end Go.Proofs.Ytmdknedngiggdaa
end
