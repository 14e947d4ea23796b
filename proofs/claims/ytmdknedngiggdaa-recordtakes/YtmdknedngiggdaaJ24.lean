/- The contracts of package codec. · The contracts of record.Put, and of its closures. · The contract of record.Put: what it has written, round by round. · The contracts of codec's reader. -/
import Derived.WalkKit
import Derived.OwnWalk
import Derived.LoopTactic
import Derived.Laws.CopyOwn
import Derived.Lib.Hide
import Derived.Lib.SliceRun
import Derived.Test.YtmdknedngiggdaaJ23
import Derived.Test.YtmdknedngiggdaaJ22
import Derived.Deep.RegionLaw
import Derived.RangeFuncBox
import Derived.RangeFuncNested
import Derived.BigQuiet
import Derived.Test.YtmdknedngiggdaaJ21
section
/- The contracts of package codec. -/
namespace Go.Proofs.Ytmdknedngiggdaa
open Go.RowKit Go.Proofs.Vm

theorem num_own (x : Nat) (hx : x < 18446744073709551616) (w : World) :
    Calls Try.prog 29 #[.int .u64 x] w fun e w' => ∃ v, e = .returned v ∧ w'.ownsRow w.heap.size 5 1 v (vput x).length ((vput x).map (Value.int .u8)) ∧ Below w.heap.size w w' := by
  have HX := Lib.hid hx
  clear hx
  go_enter Try.func29, Try.ntmps29
  go_wp2_with (go_at_call 51; with_reducible refine (put_any x HX.out _).mono ?_; rintro e w1 ⟨v1, rfl, h1, hb1⟩; have H1 := Lib.hid h1; have HB1 := Lib.hid hb1; clear h1 hb1)
  go_ret
  exact ⟨v1, rfl, H1.out, HB1.out⟩

/-- Bytes of which the first k are laid. -/
def fixed_fill (n k : Nat) : List Int := (List.range 8).map fun j => if j < k then fixB n j else 0

theorem fill_set (n k : Nat) : ((fixed_fill n k).map (Value.int .u8)).set k (.int .u8 (fixB n k)) = (fixed_fill n (k + 1)).map (Value.int .u8) := by
  apply List.ext_getElem
  · simp [fixed_fill]
  · intro i h1 h2
    rw [List.getElem_set]
    simp only [fixed_fill, List.getElem_map, List.getElem_range]
    by_cases e : k = i
    · subst e; simp
    · by_cases h : i < k
      · simp [e, h, show i < k + 1 by omega]
      · simp [e, h, show ¬ i < k + 1 by omega]

theorem fill_zero (n : Nat) : (fixed_fill n 0).map (Value.int .u8) = (madeCells (Value.int IntKind.u8 0).cells (8 * 1)).toList := by
  rw [show (Value.int IntKind.u8 0).cells = #[.int .u8 0] from rfl, toList_madeCells_one]
  simp only [fixed_fill, Nat.not_lt_zero, if_false]
  rfl
theorem fill_all (n : Nat) : fixed_fill n 8 = vfix n := by
  unfold fixed_fill vfix
  refine List.map_congr_left fun j hj => ?_
  rw [if_pos (List.mem_range.1 hj)]

theorem fix_word (n k : Nat) : (n : Int) / 2 ^ (8 * (7 - k)) % 256 = fixB n k := by
  unfold fixB
  rw [show (256 : Nat) = 2 ^ 8 by decide, ← Nat.pow_mul, Int.natCast_emod, Int.natCast_ediv, Int.natCast_pow]
  rfl

theorem bclone_any {w : World} {v : Value} {bs : List Int} (h : Holds w w.heap.size v bs) (hl : bs.length ≤ 1000000) :
    Calls Try.prog 34 #[v] w fun e w' => ∃ v, e = .returned v ∧ Holds w' w'.heap.size v bs ∧ Below w.heap.size w w' := by
  have HH := Lib.hid h
  obtain ⟨A, cap, rfl, h1, h2, h3⟩ := h
  unfold maxLen at h2
  have hq := fun (w : World) => Lib.run_eql_slice_nil (P := Try.prog) w 28 5 A bs.length cap 0 0 Try.underlying28
  cases A with
  | none =>
    have hbs : bs = [] := by
      rcases h3 with h3 | ⟨b, off, _, hA, _⟩
      · exact h3
      · cases hA
    subst hbs
    clear h3 HH
    simp only [List.length_nil, Option.isNone_none] at hq ⊢
    go_enter Try.func34, Try.ntmps34
    go_wp2
    go_ret
    exact ⟨_, rfl, ⟨none, 0, rfl, by simp, by simp, .inl rfl⟩, Below.refl _ _⟩
  | some a =>
    clear h3
    go_enter Try.func34, Try.ntmps34
    go_wp2_with (at_builtin; refine wpList_app _ rfl (.tmp 5) (.tmp 6) rfl w.heap.size _ _ [] bs w.heap.size rfl (World.ownsRow_made w #[] 0 (Nat.le_refl _) (by decide) rfl) rfl (HH.out.alloc (Nat.le_refl _) _) (by simp; omega) (by simp) ?_; intro v1 wc hown1 hg1; have H1 := Lib.hid hown1; have HG1 := Lib.hid (((Below.refl w.heap.size w).alloc (Nat.le_refl _) _).grown hg1 (by simp) (fun j ej => by cases ej; exact Nat.le_refl _)); clear hown1 hg1)
    go_ret
    exact ⟨_, rfl, Holds.of_own H1.out, HG1.out⟩

end Go.Proofs.Ytmdknedngiggdaa
end
section
/- The contracts of record.Put, and of its closures. -/
namespace Go.Proofs.Ytmdknedngiggdaa
open Go.RowKit Go.Shelf Go.Proofs.Vm Go.Proofs.Rw Go.Proofs.Lh

/-- Bytes appended to a row of the call's own, at a step of a region that draws its order. -/
theorem step_bapp {w : World} {ops : Array Oper} {o : Oper} {a : Act} {K : Act → World → Prop} {Q : Exit → Act → World → Prop} {E : Prop} (hgd : o.guard = none) (s x : Operand)
    (hop : o.op = Op.call { callee := Callee.builtin Builtin.append, args := #[s, x], argTypes := #[28, 28] }) (base : Nat) (v u : Value) (xs ys : List Int) (B : Nat) (hs : a.eval s = v) (hown : w.ownsRow base 5 1 v xs.length (xs.map (Value.int .u8)))
    (hx : a.eval x = u) (hu : Holds w B u ys) (hb : xs.length + ys.length ≤ 1000000) (hbase : base ≤ w.heap.size)
    (hK : ∀ v' w', w'.ownsRow base 5 1 v' (xs ++ ys).length ((xs ++ ys).map (Value.int .u8)) → w.grownBy w' v.ownBlock → K (a.put o.dst v') w') :
    if Region.wanted o (yielded ops a.tmps) = true then Oper.wp Try.prog o a w K Q else E := by
  have hw : Region.wanted o (yielded ops a.tmps) = true := by simp [Region.wanted, hgd]
  rw [if_pos hw]
  obtain ⟨v', w', hr, h2, h3⟩ := run_app w o.type hown hu hb hbase
  unfold Oper.wp execOp
  simp only [hop, resolve, invoke, builtin, Sem.run_bind, Sem.run_pure, Result.andThen_ok, List.map_toArray, List.map_cons, List.map_nil, hs, hx, hr]
  exact hK v' w' h2 h3

/-- A number more at the end of what is written. -/
def Put1 (base bx : Nat) (bs : List Int) (v : Value) (w w' : World) : Prop :=
  ∃ v' w1 w2, Below w.heap.size w w1 ∧ w1.grownBy w2 v.ownBlock ∧ w' = w2.setCell ⟨bx, 0, none⟩ v' ∧ w2.ownsRow base 5 1 v' bs.length (bs.map (Value.int .u8))

set_option maxHeartbeats 1000000 in
theorem put1_any (n : Nat) (hn : n < 18446744073709551616) (base bx : Nat) (bs : List Int) (hl : bs.length ≤ 900000) (v : Value) (w : World) (hb : Boxed w bx 28 v) (ho : w.ownsRow base 5 1 v bs.length (bs.map (Value.int .u8))) (hbw : base ≤ w.heap.size) :
    Calls Try.prog 28 #[.int .u64 (n : Int), .pointer (some ⟨bx, 0, none⟩)] w fun e w' => (∃ r, e = .returned r) ∧ Put1 base bx (bs ++ vput n) v w w' := by
  have hN := fun (W : World) => num_own n hn W
  have hl10 : (vput n).length ≤ 10 := vput_len10 n (by omega)
  have hc := hb.cell
  have hf := hb.frozen
  have hlt := hb.lt
  have HN := Lib.hid hN
  have HO := Lib.hid ho
  have HB := Lib.hid hb
  clear hN ho hb hn
  go_enter Try.func28, Try.ntmps28
  go_region_law (first
    | (go_simp; (with_reducible refine (HN.out _).mono ?_); rintro e w1 ⟨v1, rfl, h1, hb1⟩; have H1 := Lib.hid h1; have HB1 := Lib.hid (show Below w.heap.size w w1 from ((Below.refl w.heap.size w).drew).trans hb1); have hx1 : Boxed w1 bx 28 v := (hb1.block bx hlt).trans HB.out; have hc1 := hx1.cell; have hf1 := hx1.frozen; have HX1 := Lib.hid hx1; clear h1 hb1 hx1; dsimp only)
    | (refine step_bapp (by rfl) _ _ (by rfl) base _ _ bs (vput n) _ (by rfl) (ownsRow_below HO.out HB1.out) (by rfl) (Holds.of_own H1.out) (by omega) (Nat.le_trans hbw HB1.out.size) ?_; intro v2 w2 hown2 hg2; have H2 := Lib.hid hown2; have HG2 := Lib.hid hg2; have hx2 : Boxed w2 bx 28 v := HX1.out.kept hg2 (HB.out.not_row (by decide) HO.out); have hc2 := hx2.cell; have hf2 := hx2.frozen; have hlt2 := hx2.lt; obtain ⟨A2, c2, e2, -, -⟩ := own_form hown2; subst e2; clear hown2 hg2 hx2))
  all_goals
    refine bodyPost_end (results_none rfl _ _ _) rfl ?_
    exact ⟨⟨_, rfl⟩, _, _, _, HB1.out, HG2.out, rfl, by rw [← List.length_append]; exact H2.out⟩

/-- What more a tick is. -/
theorem more_any (a t : Nat) (h : a ≤ t) (ht : t < 18446744073709551616) (bx : Nat) (w : World) (hb : Boxed w bx 61 (.int .u64 (a : Int))) :
    Calls Try.prog 52 #[.int .u64 (t : Int), .pointer (some ⟨bx, 0, none⟩)] w fun e w' => e = .returned (.int .u64 ((t - a : Nat) : Int)) ∧ w' = w.setCell ⟨bx, 0, none⟩ (.int .u64 (t : Int)) := by
  have hc := hb.cell
  have hf := hb.frozen
  have hlt := hb.lt
  have e : ((t - a : Nat) : Int) = (t : Int) - a := by omega
  rw [e]
  have hw : IntKind.u64.wrap ((t : Int) - a) = (t : Int) - a := by rw [IntKind.wrap_u64]; omega
  clear hb e
  go_enter Try.func52, Try.ntmps52
  go_wp2
  go_ret
  exact ⟨rfl, rfl⟩
theorem steps_any (w : World) : Calls Try.prog 30 #[] w fun e w' => e = .returned (.func (.func 52) #[] #[.pointer (some ⟨w.heap.size, 0, none⟩)]) ∧ w' = w.alloc (.cells #[.int .u64 0] 61) := by
  go_enter Try.func30, Try.ntmps30
  go_wp2
  go_ret
  exact ⟨rfl, rfl⟩
theorem fromLast_any (n i m : Nat) (h : m + 1 + i = n) (hn : n ≤ 1000000) (w : World) : Calls Try.prog 31 #[.int .i64 (n : Int), .int .i64 (i : Int)] w fun e w' => e = .returned (.int .i64 (m : Int)) ∧ w = w' := by
  have e : (m : Int) = (n : Int) - 1 - i := by omega
  rw [e]
  clear e
  have h1 : (i : Int) < n := by omega
  have h2 : (n : Int) ≤ 1000000 := by omega
  clear h
  go_enter Try.func31, Try.ntmps31
  go_wp2
  go_ret
  exact ⟨rfl, rfl⟩
end Go.Proofs.Ytmdknedngiggdaa
end
section
/- The contract of record.Put: what it has written, round by round. -/
namespace Go.Proofs.Rc
open Go.Proofs.Vm Go.Proofs.Lh
open Go.Proofs.Lm (Sp)
theorem pw_len : ∀ l : List (Nat × Nat), (∀ p ∈ l, p.1 ≤ maxT ∧ p.2 ≤ maxT) → (l.flatMap pairW).length ≤ 20 * l.length
  | [], _ => by simp
  | p :: l, h => by
    have h1 := h p List.mem_cons_self
    unfold maxT at h1
    have h2 := vput_len10 p.1 (by omega)
    have h3 := vput_len10 p.2 (by omega)
    have ih := pw_len l fun q hq => h q (List.mem_cons_of_mem _ hq)
    rw [List.flatMap_cons, List.length_append, List.length_cons]
    unfold pairW at ih ⊢
    rw [List.length_append]
    omega
theorem lw_len : ∀ x : List (List (Nat × Nat)), (∀ l ∈ x, l.length ≤ 1000000 ∧ ∀ p ∈ l, p.1 ≤ maxT ∧ p.2 ≤ maxT) → (x.flatMap levelW).length ≤ 10 * x.length + 20 * x.flatten.length
  | [], _ => by simp
  | l :: x, h => by
    obtain ⟨h1, h2⟩ := h l List.mem_cons_self
    have h3 := pw_len l h2
    have h4 := vput_len10 l.length (by omega)
    have ih := lw_len x fun q hq => h q (List.mem_cons_of_mem _ hq)
    rw [List.flatMap_cons, List.length_append, List.length_cons, List.flatten_cons, List.length_append]
    unfold levelW at ih ⊢
    rw [List.length_append]
    omega
theorem encLv_flat : ∀ (r : List (List Sp)) (a : Nat), (encLv a r).flatten.length = r.flatten.length
  | [], _ => rfl
  | l :: r, a => by rw [encLv, List.flatten_cons, List.flatten_cons, List.length_append, List.length_append, encSp_len, encLv_flat r]
theorem inTurn_left {a : Nat} {xs ys : List Sp} (h : inTurn a (xs ++ ys) = true) : inTurn a xs = true := by
  rw [inTurn_app, Bool.and_eq_true] at h
  exact h.1
theorem inTurn_right {a : Nat} {xs ys : List Sp} (h : inTurn a (xs ++ ys) = true) : inTurn (endT a xs) ys = true := by
  rw [inTurn_app, Bool.and_eq_true] at h
  exact h.2
/-- What is written of the first k levels. -/
def wTo (R : List (List Sp)) (k : Nat) : List Int := (encLv 0 (R.take k)).flatMap levelW
def aTo (R : List (List Sp)) (k : Nat) : Nat := endT 0 (R.take k).flatten
theorem flat_split (R : List (List Sp)) (k : Nat) (h : k < R.length) : R.flatten = (R.take k).flatten ++ (R[k] ++ (R.drop (k + 1)).flatten) := by
  rw [← List.flatten_cons, List.getElem_cons_drop, ← List.flatten_append, List.take_append_drop]
theorem to_turn {R : List (List Sp)} (hT : inTurn 0 R.flatten = true) (k : Nat) (h : k < R.length) : aTo R k ≤ maxT ∧ inTurn (aTo R k) (R[k] ++ (R.drop (k + 1)).flatten) = true := by
  rw [flat_split R k h] at hT
  exact ⟨endT_le (by unfold maxT; omega) hT, inTurn_right hT⟩
theorem wTo_len {R : List (List Sp)} (hT : inTurn 0 R.flatten = true) (hR : ∀ l ∈ R, l.length ≤ 1000000) (k : Nat) : (wTo R k).length ≤ 10 * R.length + 20 * R.flatten.length := by
  have hsp : R.flatten = (R.take k).flatten ++ (R.drop k).flatten := by rw [← List.flatten_append, List.take_append_drop]
  have h1 : inTurn 0 (R.take k).flatten = true := by rw [hsp] at hT; exact inTurn_left hT
  have h2 := (enc_decL (R.take k) 0 (by unfold maxT; omega) h1).2
  have h3 := lw_len (encLv 0 (R.take k)) fun l hl => ⟨by
    obtain ⟨l', hl', e⟩ := encLv_lens _ _ l hl
    rw [e]
    exact hR l' (List.mem_of_mem_take hl'), h2 l hl⟩
  rw [encLv_flat, encLv_len] at h3
  have h4 : (R.take k).length ≤ R.length := by rw [List.length_take]; omega
  have h5 : (R.take k).flatten.length ≤ R.flatten.length := by rw [hsp, List.length_append]; omega
  unfold wTo
  omega
theorem wTo_succ (R : List (List Sp)) (k : Nat) (h : k < R.length) : wTo R (k + 1) = wTo R k ++ (vput R[k].length ++ (encSp (aTo R k) R[k]).flatMap pairW) ∧ aTo R (k + 1) = endT (aTo R k) R[k] := by
  unfold wTo aTo
  rw [List.take_succ_eq_append_getElem h, encLv_snoc, List.flatMap_append, List.flatten_append, endT_app]
  refine ⟨?_, by simp⟩
  congr 1
  rw [List.flatMap_cons, List.flatMap_nil, List.append_nil]
  unfold levelW
  rw [encSp_len]
theorem wTo_all (k g : Nat) (ls : Lv) : vput k ++ vput g ++ vput ls.length ++ wTo ls.reverse ls.length = rawW (k, g, encLv 0 ls.reverse) := by
  unfold wTo rawW
  rw [List.take_of_length_le (by simp)]
  dsimp only
  rw [encLv_len, List.length_reverse]
  simp
theorem wTo_zero (R : List (List Sp)) : wTo R 0 = [] ∧ aTo R 0 = 0 := ⟨rfl, rfl⟩
/-- And of the first j buckets of a level. -/
theorem pTo_succ (l : List Sp) (a j : Nat) (h : j < l.length) : (encSp a (l.take (j + 1))).flatMap pairW = (encSp a (l.take j)).flatMap pairW ++ vput (l[j].1 - endT a (l.take j)) ++ vput (l[j].2 - l[j].1) ∧ endT a (l.take (j + 1)) = l[j].2 := by
  rw [List.take_succ_eq_append_getElem h, encSp_snoc, List.flatMap_append, endT_snoc]
  refine ⟨?_, rfl⟩
  rw [List.append_assoc]
  congr 1
  rw [List.flatMap_cons, List.flatMap_nil, List.append_nil]
  rfl
theorem pTo_len {l rest : List Sp} {a : Nat} (ha : a ≤ maxT) (hT : inTurn a (l ++ rest) = true) (j : Nat) : ((encSp a (l.take j)).flatMap pairW).length ≤ 20 * l.length := by
  have h1 : inTurn a (l.take j) = true := by
    have := inTurn_left hT
    rw [← List.take_append_drop j l] at this
    exact inTurn_left this
  have h2 := pw_len _ (enc_dec (l.take j) a ha h1).2.2
  rw [encSp_len, List.length_take] at h2
  omega
theorem pTo_at {l rest : List Sp} {a : Nat} (hT : inTurn a (l ++ rest) = true) (j : Nat) (h : j < l.length) : endT a (l.take j) ≤ l[j].1 ∧ l[j].1 ≤ l[j].2 ∧ l[j].2 ≤ maxT := by
  have e : l ++ rest = l.take j ++ l[j] :: (l.drop (j + 1) ++ rest) := by
    rw [← List.cons_append, List.getElem_cons_drop, ← List.append_assoc, List.take_append_drop]
  rw [e] at hT
  exact turn_at hT
theorem rev_at {ls R : Lv} (hR : ls.reverse = R) (k m : Nat) (h : m + 1 + k = ls.length) : ∃ (h1 : k < R.length), R[k] = lev ls m := by
  subst hR
  refine ⟨by simp; omega, ?_⟩
  rw [List.getElem_reverse, lev_lt (by omega)]
  congr 1
  omega
end Go.Proofs.Rc
namespace Go.Proofs.Ytmdknedngiggdaa
open Go.RowKit Go.Shelf Go.Proofs.Vm Go.Proofs.Rw Go.Proofs.Lh

theorem own_lower {w : World} {base base' n size : Nat} {v : Value} {xs : List Value} {e : TypeId} (h : w.ownsRow base e size v n xs) (hb : base' ≤ base) : w.ownsRow base' e size v n xs := by
  refine ⟨h.1, ?_⟩
  rcases h.2 with h | ⟨g, cap, cur, hv, hg, r⟩
  · exact .inl h
  · exact .inr ⟨g, cap, cur, hv, Nat.le_trans hb hg, r⟩
/-- A block of another type isn't the row's. -/
theorem row_ne {w : World} {base n size p : Nat} {v : Value} {xs : List Value} {e T : TypeId} {cs : Array Value} (h : w.ownsRow base e size v n xs) (hp : w.heap[p]? = some (.cells cs T)) (hT : T ≠ e) : some p ≠ v.ownBlock := by
  rcases h.2 with ⟨rfl, _⟩ | ⟨g, cap, cur, rfl, _, hg, _⟩
  · intro h
    cases h
  · intro h
    injection h with h
    rw [show p = g from h] at hp
    rw [hp] at hg
    injection hg with hg
    injection hg with _ hg _
    exact hT hg
/-- What Put keeps: the histogram's box, and what is written. -/
structure PSt (w wr : World) (bx : Nat) (h3 : Array Value) (bs : List Int) : Prop where
  lt : w.heap.size < bx
  bel : Below w.heap.size w wr
  his : wr.heap[w.heap.size]? = some (.cells h3 30)
  row : ∃ v, Boxed wr bx 28 v ∧ wr.ownsRow (bx + 1) 5 1 v bs.length (bs.map (Value.int .u8))

theorem PSt.put {w wr : World} {bx : Nat} {h3 : Array Value} {bs : List Int} (h : PSt w wr bx h3 bs) (n : Nat) (hn : n < 18446744073709551616) (hl : bs.length ≤ 900000) :
    Calls Try.prog 28 #[.int .u64 (n : Int), .pointer (some ⟨bx, 0, none⟩)] wr fun e w' => (∃ r, e = .returned r) ∧ PSt w w' bx h3 (bs ++ vput n) ∧ ∀ p T cs, bx + 1 ≤ p → T ≠ 5 → wr.heap[p]? = some (.cells cs T) → w'.heap[p]? = some (.cells cs T) := by
  obtain ⟨v, hb, ho⟩ := h.row
  have hlt := hb.lt
  have hbx := h.lt
  refine (put1_any n hn (bx + 1) bx bs hl v wr hb ho (by omega)).mono ?_
  rintro e w' ⟨hr, v', w1, w2, b1, g2, rfl, o2⟩
  have hz := b1.size
  have hz2 := g2.size
  refine ⟨hr, ⟨hbx, ?_, ?_, v', ?_, ?_⟩, fun p T u hp hT hu => ?_⟩
  · exact ((h.bel.trans (b1.mono h.bel.size)).grown g2 (by omega) (fun k hk => by have := (ho.lt k hk).1; omega)).setCell (p := ⟨bx, 0, none⟩) (by show w.heap.size ≤ bx; omega) _
  · rw [Below.heap_setCell _ _ _ _ (show w.heap.size ≠ bx by omega)]
    have hlt := lt_of h.his
    refine ((g2.block _ (by omega) fun e => ?_).trans (b1.block _ hlt)).trans h.his
    have := (ho.lt _ e.symm).1
    omega
  · have : Boxed w2 bx 28 v := Boxed.kept ((b1.block _ hlt).trans hb) g2 (hb.not_row (by decide) ho)
    exact this.set v'
  · refine own_keep o2 fun b hb2 => Below.heap_setCell _ _ _ _ ?_
    have := (o2.lt b hb2).1
    show b ≠ bx
    omega
  · have hul := lt_of hu
    exact (Below.heap_setCell _ _ _ _ (show p ≠ bx by omega)).trans ((g2.block _ (by omega) (row_ne ho hu hT)).trans ((b1.block _ hul).trans hu))
theorem PSt.more {w wr : World} {bx : Nat} {h3 : Array Value} {bs : List Int} (h : PSt w wr bx h3 bs) (p : Nat) (hp : bx + 1 ≤ p) (a : Int) (t : Int) (hb : Boxed wr p 61 (.int .u64 a)) : PSt w (wr.setCell ⟨p, 0, none⟩ (.int .u64 t)) bx h3 bs ∧ Boxed (wr.setCell ⟨p, 0, none⟩ (.int .u64 t)) p 61 (.int .u64 t) := by
  obtain ⟨v, hv, ho⟩ := h.row
  have hbx := h.lt
  refine ⟨⟨hbx, h.bel.setCell (p := ⟨p, 0, none⟩) (by show w.heap.size ≤ p; omega) _, (Below.heap_setCell _ _ _ _ (show w.heap.size ≠ p by omega)).trans h.his, v, ?_, ?_⟩, hb.set _⟩
  · exact (Below.heap_setCell _ _ _ _ (show bx ≠ p by omega)).trans hv
  · refine own_keep ho fun b hb2 => Below.heap_setCell _ _ _ _ ?_
    show b ≠ p
    rintro rfl
    exact hb.not_row (by decide) ho hb2.symm
theorem PSt.alloc {w wr : World} {bx : Nat} {h3 : Array Value} {bs : List Int} (h : PSt w wr bx h3 bs) (o : Obj) : PSt w (wr.alloc o) bx h3 bs := by
  obtain ⟨v, hv, ho⟩ := h.row
  exact ⟨h.lt, h.bel.alloc h.bel.size _, (Below.heap_alloc _ _ _ (lt_of h.his)).trans h.his, v, hv.alloc o, ho.alloc _⟩
theorem PSt.drewN {w wr : World} {bx : Nat} {h3 : Array Value} {bs : List Int} (h : PSt w wr bx h3 bs) (n : Nat) : PSt w (wr.drewN n) bx h3 bs := ⟨h.lt, below_drewN h.bel _, h.his, h.row⟩
theorem PSt.start {w w1 : World} {h3 : Array Value} (hb : Below w.heap.size w w1) (hp : w1.heap[w.heap.size]? = some (.cells h3 30)) : PSt w (w1.alloc (.cells #[.slice none 0 0] 28)) w1.heap.size h3 [] :=
  ⟨lt_of hp, hb.alloc hb.size _, (Below.heap_alloc _ _ _ (lt_of hp)).trans hp, .slice none 0 0, Boxed.new _ _ _, World.ownsRow_nil _ _ _ _⟩
end Go.Proofs.Ytmdknedngiggdaa
end
section
/- The contracts of codec's reader. -/
namespace Go.Proofs.Ytmdknedngiggdaa
open Go.RowKit Go.Proofs.Vm

/-- A reader at block rb: the bytes bs are left, e was wrong. -/
def Rd (w : World) (rb : Nat) (bs : List Int) (e : Int) : Prop :=
  ∃ v, w.heap[rb]? = some (.cells #[v, .int .i64 e] 77) ∧ Holds w rb v bs

theorem Rd.keep {w w' : World} {rb : Nat} {bs : List Int} {e : Int} (h : Rd w rb bs e) (hk : ∀ b, b ≤ rb → w'.heap[b]? = w.heap[b]?) : Rd w' rb bs e := by
  obtain ⟨v, h1, h2⟩ := h
  exact ⟨v, (hk rb (Nat.le_refl _)).trans h1, h2.keep fun b o hb => World.cell?_of_block (a := ⟨b, o, none⟩) (hk b (by omega))⟩
theorem Rd.lt {w : World} {rb : Nat} {bs : List Int} {e : Int} (h : Rd w rb bs e) : rb < w.heap.size := by
  obtain ⟨v, h1, _⟩ := h
  exact (Array.getElem?_eq_some_iff.1 h1).1
theorem Rd.below {w w' : World} {rb B : Nat} {bs : List Int} {e : Int} (h : Rd w rb bs e) (hb : Below B w w') (hB : rb < B) : Rd w' rb bs e := h.keep fun b h => hb.block b (by omega)
theorem Rd.grown {w w' : World} {rb k : Nat} {bs : List Int} {e : Int} (h : Rd w rb bs e) (hg : w.grownBy w' (some k)) (hk : rb < k) : Rd w' rb bs e := h.keep fun b hb => hg.block b (by have := h.lt; omega) (by simp; omega)
theorem Rd.at {w : World} {rb : Nat} {bs : List Int} {e : Int} (h : Rd w rb bs e) : ∃ A cap, w.cell? ⟨rb, 0, none⟩ = some (.slice A bs.length cap) ∧ w.cell? ⟨rb, 1, none⟩ = some (.int .i64 e) ∧
    w.frozen? ⟨rb, 0, none⟩ = false ∧ w.frozen? ⟨rb, 1, none⟩ = false ∧ bs.length ≤ cap ∧ cap ≤ maxLen ∧ Holds w rb (.slice A bs.length cap) bs := by
  obtain ⟨v, h1, h2⟩ := h
  have h2' := h2
  obtain ⟨A, cap, rfl, h3, h4, _⟩ := h2
  refine ⟨A, cap, ?_, ?_, ?_, ?_, h3, h4, h2'⟩ <;> simp [World.cell?, World.frozen?, h1]

theorem setCell_block {w : World} {b o : Nat} {cs : Array Value} {t : TypeId} (u : Value) (h : w.heap[b]? = some (.cells cs t)) : (w.setCell ⟨b, o, none⟩ u).heap[b]? = some (.cells (cs.setIfInBounds o u) t) := heap_setCell_same w b o cs t u h
theorem grown_setCell (w : World) (b o : Nat) (u : Value) : w.grownBy (w.setCell ⟨b, o, none⟩ u) (some b) := ⟨rfl, rfl, rfl, by simp [World.setCell], fun k _ hk => Below.heap_setCell _ _ _ _ (fun e => hk (by simp [e]))⟩

theorem grownBy_trans {a b c : World} {k : Option Nat} (h : a.grownBy b k) (h2 : b.grownBy c k) : a.grownBy c k :=
  ⟨h2.os.trans h.os, h2.tape.trans h.tape, h2.output.trans h.output, Nat.le_trans h.size h2.size, fun i hi hn => (h2.block i (Nat.lt_of_lt_of_le hi h.size) hn).trans (h.block i hi hn)⟩
theorem grownBy_of_below {a b : World} {k : Option Nat} (h : Below a.heap.size a b) : a.grownBy b k := ⟨h.os, h.tape, h.output, h.size, fun i hi _ => h.block i hi⟩

theorem thn {w a b : World} (h : Below w.heap.size w a) (k : Below a.heap.size a b) : Below w.heap.size w b := h.trans (k.mono h.size)
theorem thnG {w a b : World} {rb : Nat} (h : Below w.heap.size w a) (k : a.grownBy b (some rb)) (hr : w.heap.size ≤ rb) : Below w.heap.size w b := h.grown k h.size (fun j e => by cases e; exact hr)

theorem Rd.setErr {w : World} {rb : Nat} {bs : List Int} {e : Int} (h : Rd w rb bs e) (x : Int) : Rd (w.setCell ⟨rb, 1, none⟩ (.int .i64 x)) rb bs x := by
  obtain ⟨v, h1, h2⟩ := h
  exact ⟨v, setCell_block _ h1, h2.keep fun b o hb => World.cell?_of_block (a := ⟨b, o, none⟩) (Below.heap_setCell w ⟨rb, 1, none⟩ _ b (by show b ≠ rb; omega))⟩
theorem Rd.setRest {w : World} {rb : Nat} {bs cs : List Int} {e : Int} {u : Value} (h : Rd w rb bs e) (hu : Holds w rb u cs) : Rd (w.setCell ⟨rb, 0, none⟩ u) rb cs e := by
  obtain ⟨v, h1, h2⟩ := h
  exact ⟨u, setCell_block _ h1, hu.keep fun b o hb => World.cell?_of_block (a := ⟨b, o, none⟩) (Below.heap_setCell w ⟨rb, 0, none⟩ _ b (by show b ≠ rb; omega))⟩

theorem err_nil (w : World) : Calls Try.prog 20 #[.pointer none] w fun e w' => e = .returned (.int .i64 1) ∧ w = w' := by
  go_enter Try.func20, Try.ntmps20
  go_wp2
  go_ret
  exact ⟨rfl, rfl⟩
theorem err_any {w : World} {rb : Nat} {bs : List Int} {e : Int} (h : Rd w rb bs e) : Calls Try.prog 20 #[.pointer (some ⟨rb, 0, none⟩)] w fun r w' => r = .returned (.int .i64 e) ∧ w = w' := by
  obtain ⟨A, cap, h0, h1, f0, f1, _⟩ := h.at
  clear h
  go_enter Try.func20, Try.ntmps20
  go_wp2
  go_ret
  exact ⟨rfl, rfl⟩
theorem left_nil (w : World) : Calls Try.prog 19 #[.pointer none] w fun e w' => e = .returned (.int .i64 0) ∧ w = w' := by
  go_enter Try.func19, Try.ntmps19
  go_wp2
  go_ret
  exact ⟨rfl, rfl⟩
theorem left_any {w : World} {rb : Nat} {bs : List Int} {e : Int} (h : Rd w rb bs e) : Calls Try.prog 19 #[.pointer (some ⟨rb, 0, none⟩)] w fun r w' => r = .returned (.int .i64 bs.length) ∧ w = w' := by
  obtain ⟨A, cap, h0, h1, f0, f1, _⟩ := h.at
  clear h
  go_enter Try.func19, Try.ntmps19
  go_wp2
  go_ret
  exact ⟨rfl, rfl⟩
theorem end_nil' (w : World) : Calls Try.prog 25 #[.pointer none] w fun e w' => e = .returned (.int .i64 1) ∧ w = w' := by
  go_enter Try.func25, Try.ntmps25
  go_wp2_with (go_at_call 20; (with_reducible refine (err_nil _).mono ?_); rintro e w1 ⟨rfl, rfl⟩)
  go_ret
  exact ⟨rfl, rfl⟩
theorem end_any {w : World} {rb : Nat} {bs : List Int} {e : Int} (h : Rd w rb bs e) : Calls Try.prog 25 #[.pointer (some ⟨rb, 0, none⟩)] w fun r w' => r = .returned (.int .i64 (rEnd bs e)) ∧ w = w' := by
  have HE := Lib.hid (err_any h)
  obtain ⟨A, cap, h0, h1, f0, f1, _⟩ := h.at
  clear h
  by_cases he : e = 0
  · subst he
    by_cases hl : 0 < bs.length
    · go_enter Try.func25, Try.ntmps25
      go_wp2_with (go_at_call 20; (with_reducible refine HE.out.mono ?_); clear HE; rintro e w1 ⟨rfl, rfl⟩)
      go_ret
      exact ⟨by simp [rEnd, hl], rfl⟩
    · have hl' : bs.length = 0 := by omega
      go_enter Try.func25, Try.ntmps25
      go_wp2_with (go_at_call 20; (with_reducible refine HE.out.mono ?_); clear HE; rintro e w1 ⟨rfl, rfl⟩)
      go_ret
      exact ⟨by simp [rEnd, hl], rfl⟩
  · have he' : (e != 0) = true := by simpa using he
    go_enter Try.func25, Try.ntmps25
    go_wp2_with (go_at_call 20; (with_reducible refine HE.out.mono ?_); clear HE; rintro e w1 ⟨rfl, rfl⟩)
    go_ret
    exact ⟨by simp [rEnd, he], rfl⟩

theorem fail_nil (w : World) (x : Int) : Calls Try.prog 36 #[.pointer none, .int .i64 x] w fun e w' => (∃ v, e = .returned v) ∧ w = w' := by
  go_enter Try.func36, Try.ntmps36
  go_wp2_with (go_at_call 20; (with_reducible refine (err_nil _).mono ?_); rintro e w1 ⟨rfl, rfl⟩)
  refine bodyPost_end (results_none rfl _ _ _) rfl ?_
  exact ⟨⟨_, rfl⟩, rfl⟩
theorem fail_any {w : World} {rb : Nat} {bs : List Int} {e : Int} (h : Rd w rb bs e) (x : Int) : Calls Try.prog 36 #[.pointer (some ⟨rb, 0, none⟩), .int .i64 x] w fun r w' => (∃ v, r = .returned v) ∧ Rd w' rb bs (rFail e x) ∧ w.grownBy w' (some rb) := by
  have HE := Lib.hid (err_any h)
  have HR := Lib.hid h
  obtain ⟨A, cap, h0, h1, f0, f1, _⟩ := h.at
  clear h
  by_cases he : e = 0
  · subst he
    go_enter Try.func36, Try.ntmps36
    go_wp2_with (go_at_call 20; (with_reducible refine HE.out.mono ?_); clear HE; rintro e w1 ⟨rfl, rfl⟩)
    refine bodyPost_end (results_none rfl _ _ _) rfl ?_
    exact ⟨⟨_, rfl⟩, by simpa [rFail] using HR.out.setErr x, grown_setCell _ _ _ _⟩
  · have he' : (e == 0) = false := by simpa using he
    go_enter Try.func36, Try.ntmps36
    go_wp2_with (go_at_call 20; (with_reducible refine HE.out.mono ?_); clear HE; rintro e w1 ⟨rfl, rfl⟩)
    refine bodyPost_end (results_none rfl _ _ _) rfl ?_
    exact ⟨⟨_, rfl⟩, by simpa [rFail, he] using HR.out, World.grownBy.refl _ _⟩

/-- The three results of 'number'. -/
def nk (r : Nat × Nat × Int) : Ending := .returned (.tuple #[.int .u64 (r.1 : Int), .int .i64 (r.2.1 : Int), .int .i64 r.2.2])
theorem nk_mk {x y z : Int} {r : Nat × Nat × Int} (h1 : x = r.1) (h2 : y = r.2.1) (h3 : z = r.2.2) : Ending.returned (.tuple #[.int .u64 x, .int .i64 y, .int .i64 z]) = nk r := by rw [h1, h2, h3]; rfl

theorem number_nil (w : World) (m : Int) : Calls Try.prog 75 #[.pointer none, .int .u64 m] w fun r w' => r = nk (0, 0, 1) ∧ w = w' := by
  go_enter Try.func75, Try.ntmps75
  go_wp2_with (go_at_call 20; (with_reducible refine (err_nil _).mono ?_); rintro e w1 ⟨rfl, rfl⟩)
  go_ret3
  exact ⟨rfl, rfl⟩

theorem number_any {w : World} {rb : Nat} {bs : List Int} {e : Int} (h : Rd w rb bs e) (hb : ∀ x ∈ bs, 0 ≤ x ∧ x ≤ 255) (most : Nat) : Calls Try.prog 75 #[.pointer (some ⟨rb, 0, none⟩), .int .u64 most] w fun r w' => r = nk (rnum bs e most) ∧ w = w' := by
  have HE := Lib.hid (err_any h)
  obtain ⟨A, cap, h0, h1, f0, f1, _, _, hh⟩ := h.at
  have HT := Lib.hid (take_any hh hb)
  clear h hh
  by_cases he : e = 0
  · subst he
    obtain ⟨n, k, c, ht⟩ : ∃ n k c, vtake bs = (n, k, c) := ⟨_, _, _, rfl⟩
    have HN := Lib.hid (rnum_of (most := most) ht)
    rw [ht] at HT
    clear ht
    by_cases hc : c = 0
    · subst hc
      by_cases hm : most < n
      · go_enter Try.func75, Try.ntmps75
        go_wp2_with (first
          | (go_at_call 20; (with_reducible refine HE.out.mono ?_); clear HE; rintro e w1 ⟨rfl, rfl⟩)
          | (go_at_call 91; (with_reducible refine HT.out.mono ?_); clear HT; rintro e w1 ⟨rfl, rfl⟩; dsimp only [tk]))
        go_ret3
        exact ⟨by rw [HN.out, if_neg (by simp), if_pos hm]; rfl, rfl⟩
      · have hm' : ¬ (most : Int) < n := by omega
        go_enter Try.func75, Try.ntmps75
        go_wp2_with (first
          | (go_at_call 20; (with_reducible refine HE.out.mono ?_); clear HE; rintro e w1 ⟨rfl, rfl⟩)
          | (go_at_call 91; (with_reducible refine HT.out.mono ?_); clear HT; rintro e w1 ⟨rfl, rfl⟩; dsimp only [tk]))
        go_ret3
        exact ⟨by rw [HN.out, if_neg (by simp), if_neg hm]; rfl, rfl⟩
    · have hc' : ((c : Int) != 0) = true := by simpa using hc
      go_enter Try.func75, Try.ntmps75
      go_wp2_with (first
        | (go_at_call 20; (with_reducible refine HE.out.mono ?_); clear HE; rintro e w1 ⟨rfl, rfl⟩)
        | (go_at_call 91; (with_reducible refine HT.out.mono ?_); clear HT; rintro e w1 ⟨rfl, rfl⟩; dsimp only [tk]))
      go_ret3
      exact ⟨by rw [HN.out, if_pos hc]; rfl, rfl⟩
  · have he' : (e != 0) = true := by simpa using he
    have HN := Lib.hid (rnum_bad (bs := bs) (most := most) he)
    go_enter Try.func75, Try.ntmps75
    go_wp2_with (go_at_call 20; (with_reducible refine HE.out.mono ?_); clear HE; rintro e w1 ⟨rfl, rfl⟩)
    go_ret3
    exact ⟨by rw [HN.out]; rfl, rfl⟩

/-- What is behind the first k bytes. -/
theorem Holds.drop {w : World} {B : Nat} {A : Option Addr} {cap : Nat} {bs : List Int} (h : Holds w B (.slice A bs.length cap) bs) (k : Nat) (hk : k ≤ bs.length) : Holds w B (.slice (Option.map (fun x => x.add k) A) (bs.length - k) (cap - k)) (bs.drop k) := by
  obtain ⟨A', cap', hv, h1, h2, h3⟩ := h
  injection hv with e1 e2 e3
  subst e3
  have hl : (bs.drop k).length = bs.length - k := by simp
  refine ⟨_, cap - k, by rw [hl], by omega, by omega, ?_⟩
  rcases h3 with rfl | ⟨b, off, hb, hA, hc⟩
  · exact .inl (by simp)
  · rw [← e1] at hA
    subst hA
    refine .inr ⟨b, off + k, hb, by simp [add_plain], fun j hj => ?_⟩
    rw [hl] at hj
    rw [Nat.add_assoc, hc (k + j) (by omega), List.getD_eq_getElem?_getD, List.getD_eq_getElem?_getD, List.getElem?_drop]

theorem Holds.nothing {w : World} {B : Nat} (A : Option Addr) (cap : Nat) (h : cap ≤ maxLen) : Holds w B (.slice A 0 cap) [] := ⟨A, cap, rfl, by simp, h, .inl rfl⟩
/-- The first k bytes, without room behind. -/
theorem Holds.cut {w : World} {B : Nat} {A : Option Addr} {cap : Nat} {bs : List Int} (h : Holds w B (.slice A bs.length cap) bs) (k c : Nat) (hk : k ≤ bs.length) (hc : k ≤ c) (hm : c ≤ maxLen) : Holds w B (.slice A k c) (bs.take k) := by
  have h' := h.take k hk
  obtain ⟨A', cap', hv, h1, h2, h3⟩ := h'
  injection hv with e1 e2 e3
  subst e1; subst e3
  exact ⟨A, c, by rw [← e2], by omega, hm, h3⟩

set_option maxHeartbeats 1000000 in
theorem cut_any {w : World} {rb : Nat} {bs : List Int} {e : Int} (h : Rd w rb bs e) (n : Nat) (hn : n ≤ bs.length) : Calls Try.prog 76 #[.pointer (some ⟨rb, 0, none⟩), .int .i64 n] w fun r w' => ∃ v, r = .returned v ∧ Holds w' rb v (bs.take n) ∧ Rd w' rb (bs.drop n) e ∧ w.grownBy w' (some rb) := by
  have HR := Lib.hid h
  obtain ⟨A, cap, h0, h1, f0, f1, h2, h3, hh⟩ := h.at
  have HH := Lib.hid hh
  unfold maxLen at h3
  clear h hh
  go_enter Try.func76, Try.ntmps76
  go_wp2
  · go_ret
    obtain rfl : n = bs.length := by omega
    refine ⟨_, rfl, ?_, ?_, grown_setCell _ _ _ _⟩
    · exact (HH.out.cut bs.length bs.length hn (by omega) (by unfold maxLen; omega)).keep fun b o hb => World.cell?_of_block (a := ⟨b, o, none⟩) (Below.heap_setCell w ⟨rb, 0, none⟩ _ b (by show b ≠ rb; omega))
    · refine HR.out.setRest ?_
      rw [List.drop_of_length_le (Nat.le_refl _), Nat.sub_self]
      exact Holds.nothing _ _ (by decide)
  · go_ret
    refine ⟨_, rfl, ?_, ?_, grown_setCell _ _ _ _⟩
    · exact (HH.out.cut n n hn (by omega) (by unfold maxLen; omega)).keep fun b o hb => World.cell?_of_block (a := ⟨b, o, none⟩) (Below.heap_setCell w ⟨rb, 0, none⟩ _ b (by show b ≠ rb; omega))
    · exact HR.out.setRest (HH.out.drop n hn)

theorem cut_at {w : World} {rb : Nat} {bs : List Int} {e : Int} (h : Rd w rb bs e) (m : Int) (n : Nat) (hm : m = n) (hn : n ≤ bs.length) : Calls Try.prog 76 #[.pointer (some ⟨rb, 0, none⟩), .int .i64 m] w fun r w' => ∃ v, r = .returned v ∧ Holds w' rb v (bs.take n) ∧ Rd w' rb (bs.drop n) e ∧ w.grownBy w' (some rb) := by
  subst hm; exact cut_any h n hn

theorem new_any {w : World} {v : Value} {bs : List Int} (h : Holds w w.heap.size v bs) (hl : bs.length ≤ 1000000) :
    Calls Try.prog 15 #[v] w fun r w' => ∃ rb, r = .returned (.pointer (some ⟨rb, 0, none⟩)) ∧ w.heap.size ≤ rb ∧ Rd w' rb bs 0 ∧ Below w.heap.size w w' := by
  have HC := Lib.hid (bclone_any h hl)
  clear h
  go_enter Try.func15, Try.ntmps15
  go_wp2_with (go_at_call 34; (with_reducible refine HC.out.mono ?_); clear HC; rintro e w1 ⟨v1, rfl, h1, hb1⟩; have H1 := Lib.hid h1; obtain ⟨A1, cap1, rfl, _, _, _⟩ := h1; have HB1 := Lib.hid hb1; clear hb1)
  go_ret
  refine ⟨_, rfl, HB1.out.size, ⟨_, World.alloc_heap_new _ _, H1.out.alloc (Nat.le_refl _) _⟩, HB1.out.alloc HB1.out.size _⟩

theorem rnumF {w : World} {rb : Nat} {bs : List Int} {e : Int} (h : Rd w rb bs e) (hb : ∀ x ∈ bs, 0 ≤ x ∧ x ≤ 255) (most : Nat) : Calls Try.prog 54 #[.pointer (some ⟨rb, 0, none⟩), .int .u64 most] w fun r w' =>
    r = .returned (.int .u64 ((rNum bs e most).2.2 : Int)) ∧ Rd w' rb (rNum bs e most).1 (rNum bs e most).2.1 ∧ w.grownBy w' (some rb) := by
  have HR := Lib.hid h
  have HN := Lib.hid (number_any h hb most)
  have hbd := rnum_bounds bs hb e most
  obtain ⟨r, hr⟩ : ∃ r, rnum bs e most = r := ⟨_, rfl⟩
  have HD : Hid (rNum bs e most = if r.2.2 ≠ 0 then (bs, r.2.2, 0) else (bs.drop r.2.1, 0, r.1)) := by rw [← hr]; rfl
  have HFE : Hid (r.2.2 ≠ 0 → rFail e r.2.2 = r.2.2) := by
    intro h0
    unfold rFail
    split
    · rfl
    · rename_i he; rw [← hr, rnum_bad he]
  have HZ : Hid (r.2.2 = 0 → e = 0) := by
    intro h0
    rcases Decidable.em (e = 0) with he | he
    · exact he
    · rw [← hr, rnum_bad he] at h0; exact h0
  rw [hr] at HN hbd
  clear hr h
  obtain ⟨n, k, c⟩ := r
  obtain ⟨hb1, hb2⟩ := hbd
  have hb3 : (n : Int) ≤ 18446744073709551615 := by simp only at hb1; omega
  dsimp only at hb2 HD HFE HZ
  clear hb1
  by_cases hc : c = 0
  · subst hc
    obtain rfl := HZ.out rfl
    rw [if_neg (by simp)] at HD
    go_enter Try.func54, Try.ntmps54
    go_wp2_with (first
      | (go_at_call 75; (with_reducible refine HN.out.mono ?_); clear HN; rintro e w1 ⟨rfl, rfl⟩; dsimp only [nk])
      | (go_at_call 76; (with_reducible refine (cut_any HR.out k hb2).mono ?_); rintro e w1 ⟨v1, rfl, h1, h2, h3⟩; have H2 := Lib.hid h2; have H3 := Lib.hid h3; clear h1 h2 h3))
    go_ret
    rw [HD.out]
    exact ⟨rfl, H2.out, H3.out⟩
  · have hc' : (c != 0) = true := by simpa using hc
    rw [if_pos hc] at HD
    go_enter Try.func54, Try.ntmps54
    go_wp2_with (first
      | (go_at_call 75; (with_reducible refine HN.out.mono ?_); clear HN; rintro e w1 ⟨rfl, rfl⟩; dsimp only [nk])
      | (go_at_call 36; (with_reducible refine (fail_any HR.out c).mono ?_); rintro e w1 ⟨⟨v1, rfl⟩, h2, h3⟩; have H2 := Lib.hid h2; have H3 := Lib.hid h3; clear h2 h3))
    go_ret
    rw [HD.out]
    have h2 := H2.out
    rw [HFE.out hc] at h2
    exact ⟨rfl, h2, H3.out⟩

theorem rnumF_at {w : World} {rb : Nat} {bs : List Int} {e : Int} (h : Rd w rb bs e) (hb : ∀ x ∈ bs, 0 ≤ x ∧ x ≤ 255) (m : Int) (most : Nat) (hm : m = most) : Calls Try.prog 54 #[.pointer (some ⟨rb, 0, none⟩), .int .u64 m] w fun r w' =>
    r = .returned (.int .u64 ((rNum bs e most).2.2 : Int)) ∧ Rd w' rb (rNum bs e most).1 (rNum bs e most).2.1 ∧ w.grownBy w' (some rb) := by
  subst hm; exact rnumF h hb most

theorem rnum_nil (w : World) (m : Int) : Calls Try.prog 54 #[.pointer none, .int .u64 m] w fun r w' => r = .returned (.int .u64 0) ∧ w = w' := by
  go_enter Try.func54, Try.ntmps54
  go_wp2_with (first
    | (go_at_call 75; (with_reducible refine (number_nil _ _).mono ?_); rintro e w1 ⟨rfl, rfl⟩; dsimp only [nk])
    | (go_at_call 36; (with_reducible refine (fail_nil _ _).mono ?_); rintro e w1 ⟨⟨v1, rfl⟩, rfl⟩))
  go_ret
  exact ⟨rfl, rfl⟩
theorem or_byte (n d : Nat) (hn : n < 72057594037927936) (hd : d < 256) : bits BinOp.or IntKind.u64 (n * 256 : Int) (d : Int) = ((256 * n + d : Nat) : Int) := by
  have e : ((n : Int) * 256) = ((n * 256 : Nat) : Int) := by omega
  rw [e, bits_or_u64_nat _ _ (by omega) (by omega)]
  congr 1
  have := Nat.two_pow_add_eq_or_of_lt (i := 8) (b := d) (by simpa using hd) n
  rw [Nat.mul_comm n, show (256 : Nat) = 2 ^ 8 by decide, this]

/-- A cell of bytes that lie. -/
theorem Holds.cellAt {w : World} {B : Nat} {A : Option Addr} {len cap : Nat} {bs : List Int} (h : Holds w B (.slice A len cap) bs) (j : Nat) (hj : j < bs.length) : ∃ b off, A = some ⟨b, off, none⟩ ∧ w.cell? ⟨b, off + j, none⟩ = some (.int .u8 (bs.getD j 0)) := by
  obtain ⟨A', cap', hv, h1, h2, h3⟩ := h
  injection hv with e1 e2 e3
  rcases h3 with rfl | ⟨b, off, hb, hA, hc⟩
  · simp at hj
  · exact ⟨b, off, e1.trans hA, hc j hj⟩

theorem u8_splice (bs : List Int) (z : List Value) (hl : z.length = bs.length) : splice z 0 (bs.map (Value.int .u8)) = bs.map (Value.int .u8) := by
  simp [splice, hl]
/-- A row that is owned whole. -/
theorem own_block {w : World} {base e g n : Nat} {xs : List Value} (h : w.ownsRow base e 1 (.slice (some ⟨g, 0, none⟩) n n) n xs) : w.heap[g]? = some (.cells xs.toArray e (0, 0)) ∧ xs.length = n := by
  rcases h.2 with ⟨h', _⟩ | ⟨g', cap', cur, h', _, hg, _, _, hs, htake⟩
  · simp at h'
  · simp only [Value.slice.injEq, Option.some.injEq, Addr.mk.injEq, and_true, true_and] at h'
    obtain ⟨rfl, rfl⟩ := h'
    rw [List.take_of_length_le (by rw [Array.length_toList, hs]; exact Nat.le_refl _)] at htake
    subst htake
    exact ⟨by simpa using hg, by simpa using hs⟩

theorem own_form {w : World} {base e size n c : Nat} {A : Option Addr} {xs : List Value} (h : w.ownsRow base e size (.slice A n c) n xs) (hn : 0 < n) : ∃ g, A = some ⟨g, 0, none⟩ ∧ base ≤ g := by
  rcases h.2 with ⟨_, h0⟩ | ⟨g, cap, cur, h', hg, _⟩
  · omega
  · injection h' with e1
    exact ⟨g, e1, hg⟩
/-- What is owned below B stays so where all below B stays. -/
theorem ownsRow_belowB {w w' : World} {base B : Nat} {e : TypeId} {size : Nat} {v : Value} {n : Nat} {xs : List Value} (h : w.ownsRow base e size v n xs) (hl : ∀ k, v.ownBlock = some k → k < B) (hb : Below B w w') : w'.ownsRow base e size v n xs := by
  refine ⟨h.1, ?_⟩
  rcases h.2 with h1 | ⟨g, cap, cur, hv, hg, hh, r⟩
  · exact .inl h1
  · exact .inr ⟨g, cap, cur, hv, hg, (hb.block g (hl g (by rw [hv]; rfl))).trans hh, r⟩

theorem copy_src {w : World} {B : Nat} {A : Option Addr} {len cap : Nat} {bs : List Int} (h : Holds w B (.slice A len cap) bs) (hp : 0 < bs.length) : ∃ ad, A = some ad ∧ ∀ (j : Nat) (v : Value), (bs.map (Value.int .u8))[j]? = some v → w.cell? (ad.add j) = some v := by
  obtain ⟨b, off, rfl, _⟩ := h.cellAt 0 hp
  refine ⟨_, rfl, fun j v hv => ?_⟩
  have hj : j < bs.length := by have := (List.getElem?_eq_some_iff.1 hv).1; simpa using this
  obtain ⟨b', off', e, hc⟩ := h.cellAt j hj
  cases e
  rw [add_plain, hc]
  rw [List.getElem?_map, List.getElem?_eq_getElem hj] at hv
  rw [List.getD_eq_getElem?_getD, List.getElem?_eq_getElem hj]
  simpa using hv

end Go.Proofs.Ytmdknedngiggdaa
end
