/- The contracts of sort.Search, of buffer.upTo, of slices.Clip and of buffer.greatest. · append onto a slice that has no room behind it; the contract of buffer.put. · The contracts of buffer.fronts, cut, Move and Push. · The contracts of buffer.Move and Push. -/
import Derived.Test.YthncmjimfkbofaaJ11
import Derived.Deep.RegionLaw
section
/- The contracts of sort.Search, of buffer.upTo, of slices.Clip and of buffer.greatest. -/
set_option linter.unusedVariables false
namespace Go.Proofs.Ythncmjimfkbofaa
open Go.RowKit Go.Shelf Go.Proofs.Rw Go.Proofs.Lh Go.Proofs.Bu

set_option maxRecDepth 100000 in
set_option maxHeartbeats 2000000 in
/-- sort.Search of a function that rises: the first place at which it holds. -/
theorem search_any {g : Nat} {cb : Array Value} (n : Nat) (p : Nat → Bool) (w : World) (m : Nat) (hm : m ≤ n) (hn : n ≤ 1000000) (eg : ∀ args w, (callFunc g args).run Try.prog w = .ok (.enter g args) w)
    (hf : ∀ W, Below w.heap.size w W → ∀ i : Nat, i < n → Calls Try.prog g (#[.int .i64 (i : Int)] ++ cb) W fun e w' => e = .returned (.bool (p i)) ∧ Below W.heap.size W w')
    (hp : ∀ i, i < n → (p i = true ↔ m ≤ i)) :
    Calls Try.prog 77 #[.int .i64 (n : Int), .func (.func g) #[] cb] w fun e w' => e = .returned (.int .i64 (m : Int)) ∧ Below w.heap.size w w' := by
  have HF := Lib.hid hf
  have HP := Lib.hid hp
  clear hf hp
  go_enter Try.func77, Try.ntmps77
  go_wp2
  go_loopw [5, 6] (fun s5 s6 wr => ∃ lo hi : Nat, s5 = .int .i64 (lo : Int) ∧ s6 = .int .i64 (hi : Int) ∧ lo ≤ m ∧ m ≤ hi ∧ hi ≤ n ∧ Hid (Below w.heap.size w wr)) (fun s5 s6 _ => (intOf s6 - intOf s5).toNat)
  case atStart => exact ⟨0, n, rfl, rfl, Nat.zero_le _, hm, Nat.le_refl _, Lib.hid (Below.refl _ _)⟩
  case round =>
    obtain ⟨lo, hi, rfl, rfl, hlo, hhi, hin, HB⟩ := hrel
    by_cases hlt : lo < hi
    · obtain ⟨k, hk⟩ : ∃ k, (lo + hi) / 2 = k := ⟨_, rfl⟩
      have hkz : ((lo : Int) + (hi : Int)) / 2 = (k : Int) := by omega
      have hk1 : lo ≤ k := by omega
      have hk2 : k < hi := by omega
      have hc := HF.out _ HB.out k (by omega)
      have hpk := HP.out k (by omega)
      cases hq : p k
      · rw [hq] at hc hpk
        have hmk : k < m := by
          rcases Nat.lt_or_ge k m with h | h
          · exact h
          · exact absurd (hpk.2 h) (by simp)
        have HC := Lib.hid hc
        clear hc hpk hq hk
        go_wp2_with (go_at_fn g; refine HC.out.mono ?_; rintro e w' ⟨rfl, hb⟩; have HB2 := Lib.hid (thn HB.out hb); clear hb)
        refine ⟨⟨k + 1, hi, by go_num, rfl, hmk, hhi, hin, HB2⟩, by simp [intOf]; omega⟩
      · rw [hq] at hc hpk
        have hmk : m ≤ k := hpk.1 rfl
        have HC := Lib.hid hc
        clear hc hpk hq hk
        go_wp2_with (go_at_fn g; refine HC.out.mono ?_; rintro e w' ⟨rfl, hb⟩; have HB2 := Lib.hid (thn HB.out hb); clear hb)
        refine ⟨⟨lo, k, rfl, rfl, hlo, hmk, by omega, HB2⟩, by simp [intOf]; omega⟩
    · have e : hi = lo := by omega
      have e2 : lo = m := by omega
      go_wp2
      go_ret
      exact ⟨by subst e2; rfl, HB.out⟩

/-- upTo's function: is the event at a place later than the tick? -/
theorem later_any (W : World) (b1 b2 : Nat) (A : Option Addr) (c B : Nat) (l : List Ev) (t i : Nat) (hi : i < l.length) (hl : l.length ≤ 1000000) (hB : B ≤ W.heap.size)
    (h1 : W.cell? ⟨b1, 0, none⟩ = some (.slice A l.length c)) (h2 : W.cell? ⟨b2, 0, none⟩ = some (.int .u64 (t : Int))) (hL : Lies evL W B (.slice A l.length c) l) :
    Calls Try.prog 78 (#[.int .i64 (i : Int)] ++ #[.pointer (some ⟨b1, 0, none⟩), .pointer (some ⟨b2, 0, none⟩)]) W fun e w' => e = .returned (.bool (decide (t < l[i].1))) ∧ Below W.heap.size W w' := by
  obtain ⟨b, off, rfl, hb, -, hc⟩ := ev_at hL (by omega)
  obtain ⟨q0, -, -⟩ := hc i hi
  generalize l[i].1 = x at *
  obtain ⟨N, hN⟩ : ∃ N, l.length = N := ⟨_, rfl⟩
  rw [hN] at h1 hi hl
  clear hc hL hN
  have hbb : b < W.heap.size := by omega
  have l1 : b1 < W.heap.size := World.block_lt_of_cell? _ _ h1
  have l2 : b2 < W.heap.size := World.block_lt_of_cell? _ _ h2
  go_enter Try.func78, Try.ntmps78
  go_wp2_with fail
  go_quiet (fail)
  go_wp2
  go_ret
  refine ⟨?_, ⟨rfl, rfl, rfl, Nat.le_refl _, fun _ _ => rfl⟩⟩
  first
    | rfl
    | (refine ret_b ?_; rw [Bool.eq_iff_iff]; simp; done)

set_option maxHeartbeats 1000000 in
theorem upTo_any (l : List Ev) (hs : Sd l) (hl : l.length ≤ 1000000) (t : Nat) (w : World) (A : Option Addr) (c : Nat) (B : Nat) (hB : B ≤ w.heap.size) (h : Lies evL w B (.slice A l.length c) l) :
    Calls Try.prog 61 #[.slice A l.length c, .int .u64 (t : Int)] w fun e w' => e = .returned (.int .i64 ((outL t l).length : Int)) ∧ Below w.heap.size w w' := by
  have eg : ∀ args w, (callFunc 78 args).run Try.prog w = .ok (.enter 78 args) w := enters_of Try.func78 (by kernel_rfl) rfl
  have hsr := fun (W : World) (hb : Below w.heap.size w W) (b1 b2 : Nat) (h1 : W.cell? ⟨b1, 0, none⟩ = some (.slice A l.length c)) (h2 : W.cell? ⟨b2, 0, none⟩ = some (.int .u64 (t : Int))) =>
    search_any (g := 78) (cb := #[.pointer (some ⟨b1, 0, none⟩), .pointer (some ⟨b2, 0, none⟩)]) l.length (fun i => if h : i < l.length then decide (t < l[i].1) else true) W (outL t l).length (out_len_le t l) hl eg
      (fun W' hW i hi => by
        have := later_any W' b1 b2 A c w.heap.size l t i hi hl (Nat.le_trans hb.size hW.size) ((hW.cell (p := ⟨b1, 0, none⟩) (World.block_lt_of_cell? _ _ h1)).trans h1) ((hW.cell (p := ⟨b2, 0, none⟩) (World.block_lt_of_cell? _ _ h2)).trans h2) (((h.mono hB).below hb).keep fun b hb' => hW.block b (by have := hb.size; omega))
        simpa [hi] using this)
      (fun i hi => by
        have := out_at hs t hi
        simp only [hi, dite_true, decide_eq_true_eq]
        omega)
  obtain ⟨N, hN⟩ : ∃ N, l.length = N := ⟨_, rfl⟩
  obtain ⟨M, hM⟩ : ∃ M, (outL t l).length = M := ⟨_, rfl⟩
  rw [hM] at hsr ⊢
  rw [hN] at hsr ⊢
  obtain ⟨W0, hW0, hsz, p0, p1, hB0⟩ := heap_two w (.cells #[.slice A N c] 27) (.cells #[.int .u64 (t : Int)] 22)
  have hc := hsr W0 hB0 _ _ (box1 p0).1 (box1 p1).1
  have q0 := (box1 p0).1
  have HC := Lib.hid hc
  have HW := Lib.hid hW0
  have HB := Lib.hid hB0
  have HSZ := Lib.hid hsz
  clear hsr hc hW0 hB0 hM hN hs hl h hB p0 p1 hsz
  go_enter Try.func61, Try.ntmps61
  go_upto_region 1 with (fail)
  rw [← HW.out]
  have l0 : w.heap.size < W0.heap.size := by have := HSZ.out; omega
  go_wp2_with (go_at_call 77; (with_reducible refine HC.out.mono ?_); rintro e w' ⟨rfl, hb⟩; have HB2 := Lib.hid (thn HB.out hb); clear hb)
  go_ret
  exact ⟨rfl, HB2.out⟩

/-- slices.Clip: no room behind. -/
theorem eclip_any (A : Option Addr) (n c : Nat) (h1 : n ≤ c) (h2 : c ≤ maxLen) (w : World) :
    Calls Try.prog 62 #[.slice A n c] w fun e w' => e = .returned (.slice A n n) ∧ w = w' := by
  unfold maxLen at h2
  go_enter Try.func62, Try.ntmps62
  go_wp2
  all_goals (go_ret; first | exact ⟨rfl, rfl⟩ | exact ⟨by simp, rfl⟩)

/-! ### The greatest of some ticks -/

def gre (l : List Nat) : Nat := l.foldl max 0
theorem gre_snoc (l : List Nat) (x : Nat) : gre (l ++ [x]) = max (gre l) x := by simp [gre]

set_option maxHeartbeats 1000000 in
theorem greatest_any (xs : List Nat) (hl : xs.length ≤ 1000000) (w : World) (B : Nat) (hB : B ≤ w.heap.size) (A : Option Addr) (c : Nat) (h : Lies nuL w B (.slice A xs.length c) xs) :
    Calls Try.prog 31 #[.slice A xs.length c] w fun e w' => e = .returned (.int .u64 (gre xs : Int)) ∧ w = w' := by
  obtain ⟨N, hN⟩ : ∃ N, xs.length = N := ⟨_, rfl⟩
  have HL := Lib.hid h
  obtain ⟨G, hG⟩ : ∃ G, gre xs = G := ⟨_, rfl⟩
  rw [hN] at HL hl ⊢
  rw [hG]
  have HN := Lib.hid hN
  have HG := Lib.hid hG
  clear h hN hG
  go_enter Try.func31, Try.ntmps31
  go_wp2
  go_loop [3, 8] (fun m' j' => ∃ j : Nat, j' = .int .i64 (j : Int) ∧ j ≤ N ∧ m' = .int .u64 (gre (xs.take j) : Int)) (fun _ j' => N - (intOf j').toNat)
  case atStart => exact ⟨0, rfl, Nat.zero_le _, by simp [gre]⟩
  case round =>
    obtain ⟨j, rfl, hj, rfl⟩ := hrel
    by_cases hlt : j < N
    · have hjl : j < xs.length := by rw [HN.out]; exact hlt
      obtain ⟨b, off, rfl, hb, -, hc⟩ := nu_at HL.out (by omega)
      have q := hc j hjl
      have ht : gre (xs.take (j + 1)) = max (gre (xs.take j)) xs[j] := by rw [List.take_succ_eq_append_getElem hjl, gre_snoc]
      generalize xs[j] = x at *
      generalize gre (xs.take j) = g at *
      have HT := Lib.hid ht
      clear hc ht
      go_wp2
      refine ⟨⟨j + 1, by go_num, hlt, ?_⟩, by simp [intOf]; omega⟩
      rw [HT.out]
      congr 1
      omega
    · have e : j = N := by omega
      subst e
      have hg : gre (xs.take j) = G := by rw [List.take_of_length_le (by rw [HN.out]; exact Nat.le_refl _), HG.out]
      rw [hg]
      go_wp2
      go_ret
      exact ⟨rfl, rfl⟩

end Go.Proofs.Ythncmjimfkbofaa
end
section
/- append onto a slice that has no room behind it; the contract of buffer.put. -/
set_option linter.unusedVariables false
namespace Go.Proofs.Rw
open Go Go.RowKit
variable {α : Type} {L : Lay α}

/-- What is appended to a slice without room lies in a row of the call's own. -/
theorem run_clip {P : Program} (t ty e : TypeId) (z : Value) (bytes : Nat) (hinfo : (P.info? e).map (fun i => (i.zero, i.size, i.bytes)) = some (some z, L.size, bytes)) (ht : P.underlying t = some (.slice e)) (hz : z.cells.size = L.size) (hby : bytes ≤ 1000)
    (w : World) {A : Option Addr} {u : Value} {xs ys : List α} {B B' : Nat} {n : Nat} (hn : n = xs.length) (hv : Lies L w B (.slice A xs.length xs.length) xs) (hA : A = none → xs = []) (hu : Lies L w B' u ys) (hy : 0 < ys.length) (hb : xs.length + ys.length ≤ 10000000) :
    ∃ v' w', (Builtin.append_ #[t, t] ty #[.slice A n n, u]).run P w = .ok v' w' ∧ w'.ownsRow w.heap.size e L.size v' (xs ++ ys).length (L.cells (xs ++ ys)) ∧ Below w.heap.size w w' := by
  subst hn
  obtain ⟨i0, hi, hz0, hz1, hz2⟩ := info_parts hinfo
  obtain ⟨A', cap, rfl, h2, h3, h4⟩ := hu
  obtain ⟨b', off', _, rfl, hc⟩ : ∃ b off, b < B' ∧ A' = some ⟨b, off, none⟩ ∧ ∀ j u, (L.cells ys)[j]? = some u → w.cell? ⟨b, off + j, none⟩ = some u := by
    rcases h4 with rfl | h4
    · simp at hy
    · exact h4
  have hnews : ∀ j x, (L.cells ys)[j]? = some x → w.cell? ((⟨b', off', none⟩ : Addr).add j) = some x := fun j x hx => by rw [Addr.add_lit]; exact hc j x hx
  have hln : (L.cells ys).length = ys.length * i0.size := by rw [cells_len, hz1]
  have hbytes : (xs.length + ys.length) * i0.bytes ≤ 140737488355328 := by
    rw [hz2]
    exact Nat.le_trans (Nat.mul_le_mul hb hby) (by decide)
  have grown : ∀ old, old < xs.length + ys.length → (w.drew.alloc (.cells ((L.cells xs).toArray ++ (L.cells ys).toArray ++ Builtin.zeroCells z.cells (grownCap w (xs.length + ys.length) old e - (xs.length + ys.length))) e)).ownsRow w.heap.size e L.size
        (.slice (some ⟨w.heap.size, 0, none⟩) (xs.length + ys.length) (grownCap w (xs.length + ys.length) old e)) (xs ++ ys).length (L.cells (xs ++ ys)) := by
    intro old ho
    have hge := grownCap_ge w (xs.length + ys.length) old e
    have hcm : grownCap w (xs.length + ys.length) old e ≤ maxLen := grownCap_le_maxLen w _ old e (by unfold maxLen; omega)
    rw [List.length_append, cells_app]
    have hlen : (L.cells xs ++ L.cells ys).length = (xs.length + ys.length) * L.size := by rw [List.length_append, cells_len, cells_len, Nat.add_mul]
    refine ⟨hlen, .inr ⟨w.heap.size, _, _, rfl, Nat.le_refl _, heap_alloc_new w.drew _, hge, hcm, ?_, ?_⟩⟩
    · simp only [Array.size_append, List.size_toArray, size_zeroCells, hz, cells_len, ← Nat.add_mul]
      congr 1
      omega
    · simp only [Array.toList_append, List.append_assoc]
      rw [← List.append_assoc, ← hlen]
      exact List.take_left
  have bel : ∀ o, Below w.heap.size w (w.drew.alloc o) := fun o => (Below.refl w.heap.size w).drew.alloc (Nat.le_refl _) o
  cases A with
  | none =>
    have hx := hA rfl
    subst hx
    have hr := run_append_nil (P := P) w t ty e i0 z ht hi hz0 ⟨b', off', none⟩ ys.length cap (L.cells ys) hln hnews (by omega) (by omega) (by simp only [List.length_nil, Nat.zero_add] at hbytes; omega)
    have hg := grown 0 (by simp; omega)
    simp only [List.length_nil, Nat.zero_add, cells_nil, Array.empty_append, List.nil_append] at hg ⊢
    exact ⟨_, _, hr, hg, bel _⟩
  | some ad =>
    have holds : ∀ j v, (L.cells xs)[j]? = some v → w.cell? (ad.add j) = some v := by
      intro j v hj
      obtain ⟨A2, c2, hv2, _, _, h5⟩ := hv
      injection hv2 with e1 _ _
      rcases h5 with rfl | ⟨b, off, _, hA2, hcc⟩
      · simp [Lay.cells] at hj
      · rw [← e1] at hA2
        cases hA2
        rw [Addr.add_lit]
        exact hcc j v hj
    have hr := run_append_grow (P := P) w t ty e i0 z ht hi hz0 ad xs.length xs.length (L.cells xs) (by rw [cells_len, hz1]) holds ⟨b', off', none⟩ ys.length cap (L.cells ys) hln hnews (by omega) (by omega) (growslice_fits (by omega) hbytes)
    exact ⟨_, _, hr, grown xs.length (by omega), bel _⟩

theorem step_clip {P : Program} (e : TypeId) (z : Value) (bytes : Nat) {t : TypeId} (hinfo : (P.info? e).map (fun i => (i.zero, i.size, i.bytes)) = some (some z, L.size, bytes)) (ht : P.underlying t = some (.slice e)) (hz : z.cells.size = L.size) (hby : bytes ≤ 1000)
    {w : World} {ops : Array Oper} {o : Oper} {a : Act} {K : Act → World → Prop} {Q : Exit → Act → World → Prop} {E : Prop} (hgd : o.guard = none) (s x : Operand)
    (hop : o.op = Op.call { callee := Callee.builtin Builtin.append, args := #[s, x], argTypes := #[t, t] }) {A : Option Addr} {u : Value} (xs ys : List α) {B B' n : Nat} (hs : a.eval s = .slice A n n) (hn : n = xs.length) (hv : Lies L w B (.slice A xs.length xs.length) xs) (hA : A = none → xs = [])
    (hx : a.eval x = u) (hu : Lies L w B' u ys) (hy : 0 < ys.length) (hb : xs.length + ys.length ≤ 10000000)
    (hK : ∀ v' w', w'.ownsRow w.heap.size e L.size v' (xs ++ ys).length (L.cells (xs ++ ys)) → Below w.heap.size w w' → K (a.put o.dst v') w') :
    if Region.wanted o (yielded ops a.tmps) = true then Oper.wp P o a w K Q else E := by
  have hw : Region.wanted o (yielded ops a.tmps) = true := by simp [Region.wanted, hgd]
  rw [if_pos hw]
  obtain ⟨v', w', hr, h2, h3⟩ := run_clip t o.type e z bytes hinfo ht hz hby w hn hv hA hu hy hb
  unfold Oper.wp execOp
  simp only [hop, resolve, invoke, builtin, Sem.run_bind, Sem.run_pure, Result.andThen_ok, List.map_toArray, List.map_cons, List.map_nil, hs, hx, hr]
  exact hK v' w' h2 h3
end Go.Proofs.Rw
namespace Go.Proofs.Ythncmjimfkbofaa
open Go.RowKit Go.Shelf Go.Proofs.Rw Go.Proofs.Lh Go.Proofs.Bu

/-- Where a slice of events may point: nowhere, without room, or into a block. -/
def Fine (A : Option Addr) (c : Nat) : Prop := (A = none ∧ c = 0) ∨ ∃ b off, A = some ⟨b, off, none⟩
theorem own_fine {w : World} {base : Nat} {e : TypeId} {size n m c : Nat} {A : Option Addr} {cs : List Value} (h : w.ownsRow base e size (.slice A m c) n cs) : Fine A c := by
  rcases h.2 with ⟨h1, _⟩ | ⟨g, cap, cur, h1, _⟩
  · injection h1 with a b c
    exact .inl ⟨a, c⟩
  · injection h1 with a b c
    exact .inr ⟨_, _, a⟩
/-- In the same block. -/
def Sub (A1 A : Option Addr) : Prop := ∀ b off, A1 = some ⟨b, off, none⟩ → ∃ off', A = some ⟨b, off', none⟩
/-- In a new block, or in the same one. -/
def From (w : World) (A A1 : Option Addr) : Prop := ∀ b off, A1 = some ⟨b, off, none⟩ → w.heap.size ≤ b ∨ ∃ off', A = some ⟨b, off', none⟩
theorem Sub.from {w : World} {A A1 : Option Addr} (h : Sub A1 A) : From w A A1 := fun b off e => .inr (h b off e)
theorem From.new {w W : World} {A A1 A2 : Option Addr} (h : From W A1 A2) (hw : w.heap.size ≤ W.heap.size) (h1 : From w A A1) : From w A A2 := fun b off e => by
  rcases h b off e with h | ⟨off', h⟩
  · exact .inl (Nat.le_trans hw h)
  · exact h1 b off' h
theorem From.none (w : World) (A : Option Addr) : From w A Option.none := fun _ _ e => by cases e
/-- A slice that holds the events xs, in a block of events. -/
structure Evs (w : World) (A : Option Addr) (c : Nat) (xs : List Ev) : Prop where
  lies : Lies evL w w.heap.size (.slice A xs.length c) xs
  fine : Fine A c
  typed : ∀ b off, A = some ⟨b, off, none⟩ → ∃ cs fr, w.heap[b]? = some (.cells cs 41 fr)
theorem Evs.cap {w : World} {A : Option Addr} {c : Nat} {xs : List Ev} (h : Evs w A c xs) : xs.length ≤ c ∧ c ≤ maxLen := by
  obtain ⟨_, _, hv, h1, h2, _⟩ := h.lies
  injection hv with _ e2 e3
  subst e3
  exact ⟨h1, h2⟩
theorem Evs.none (w : World) : Evs w Option.none 0 [] := ⟨Lies.nil _ _ (by unfold maxLen; omega), .inl ⟨rfl, rfl⟩, fun _ _ e => by cases e⟩
theorem Evs.grow {w w' : World} {A : Option Addr} {c : Nat} {xs : List Ev} (h : Evs w A c xs) (hb : Below w.heap.size w w') : Evs w' A c xs :=
  ⟨h.lies.grow hb, h.fine, fun b off e => by
    obtain ⟨cs, fr, hh⟩ := h.typed b off e
    exact ⟨cs, fr, (hb.block b (lt_of hh)).trans hh⟩⟩
/-- A store into a block of another type. -/
theorem Evs.other {w w' : World} {A : Option Addr} {c r : Nat} {xs : List Ev} {cs : Array Value} {T : TypeId} {fr : Nat × Nat} (h : Evs w A c xs) (hg : w.grownBy w' (some r)) (hr : w.heap[r]? = some (.cells cs T fr)) (hT : T ≠ 41) : Evs w' A c xs := by
  have key : ∀ b off, A = some ⟨b, off, Option.none⟩ → b ≠ r := fun b off e hbr => by
    obtain ⟨cs', fr', hh⟩ := h.typed b off e
    rw [hbr, hr] at hh
    injection hh with hh
    injection hh with _ hh _
    exact hT hh
  refine ⟨h.lies.off hg fun b hb e => ?_, h.fine, fun b off e => ?_⟩
  · rcases h.fine with ⟨rfl, _⟩ | ⟨b', off', rfl⟩
    · cases hb
    · have : b' = b := by simpa [Value.ownBlock] using hb
      injection e with e
      exact key b' off' rfl (by rw [this, e])
  · obtain ⟨cs', fr', hh⟩ := h.typed b off e
    exact ⟨cs', fr', (hg.block b (lt_of hh) (by have := key b off e; simpa using this)).trans hh⟩
theorem Evs.of_own {w : World} {base c n : Nat} {A : Option Addr} {xs : List Ev} (h : w.ownsRow base 41 3 (.slice A n c) xs.length (evL.cells xs)) : Evs w A c xs := by
  have e : n = xs.length := by
    rcases h.2 with ⟨h1, h0⟩ | ⟨g, cap, cur, h1, _⟩
    · injection h1 with _ b _
      omega
    · injection h1
  subst e
  refine ⟨Lies.of_own h, own_fine h, fun b off e => ?_⟩
  rcases h.2 with ⟨h1, _⟩ | ⟨g, cap, cur, h1, _, hg, _⟩
  · injection h1 with a
    rw [e] at a
    cases a
  · injection h1 with a
    rw [e] at a
    injection a with a
    injection a with a _ _
    subst a
    exact ⟨cur, (0, 0), hg⟩
theorem own_from {w W : World} {base n m c : Nat} {A A1 : Option Addr} {xs : List Value} (h : W.ownsRow base 41 3 (.slice A1 n c) m xs) (hb : w.heap.size ≤ base) : From w A A1 := fun b off e => by
  subst e
  exact .inl (Nat.le_trans hb (h.lt b rfl).1)
theorem own_le {w : World} {base base' : Nat} {e : TypeId} {size n : Nat} {v : Value} {cs : List Value} (h : w.ownsRow base e size v n cs) (hb : base' ≤ base) : w.ownsRow base' e size v n cs := by
  refine ⟨h.1, ?_⟩
  rcases h.2 with h1 | ⟨g, cap, cur, rfl, h2, h3⟩
  · exact .inl h1
  · exact .inr ⟨g, cap, cur, rfl, Nat.le_trans hb h2, h3⟩
theorem lies_drew {α : Type} {L : Lay α} {w : World} {B : Nat} {v : Value} {xs : List α} (h : Lies L w B v xs) (hB : B ≤ w.heap.size) (o : Obj) : Lies L (w.drew.alloc o) B v xs := h.keep fun b hb => Below.heap_alloc w.drew o b (by show b < w.heap.size; omega)

theorem ins_parts {l : List Ev} (h : Sd l) (e : Ev) : insL e l = l.take (outL e.1 l).length ++ [e] ++ l.drop (outL e.1 l).length := by
  unfold insL
  rw [← out_take h, ← stay_drop h]
  simp

set_option maxRecDepth 100000 in
set_option maxHeartbeats 4000000 in
theorem put_any (l : List Ev) (hs : Sd l) (hl : l.length ≤ 1000000) (e : Ev) (w : World) (A : Option Addr) (c : Nat) (h : Lies evL w w.heap.size (.slice A l.length c) l) (hA : Fine A c) :
    Calls Try.prog 53 #[.slice A l.length c, .agg #[.int .u64 (e.1 : Int), .int .u64 (e.2.1 : Int), .int .u64 (e.2.2 : Int)]] w fun r w' => ∃ v, r = .returned v ∧ OwnE w' w.heap.size v (insL e l) ∧ Below w.heap.size w w' := by
  have hup := fun (W : World) (hb : Below w.heap.size w W) => upTo_any l hs hl e.1 W A c w.heap.size hb.size (h.below hb)
  obtain ⟨n, hn⟩ : ∃ n, (outL e.1 l).length = n := ⟨_, rfl⟩
  have hnl : n ≤ l.length := by rw [← hn]; exact out_len_le _ _
  have hins := ins_parts hs e
  obtain ⟨R, hR⟩ : ∃ R, insL e l = R := ⟨_, rfl⟩
  rw [hn] at hup hins
  rw [hR] at hins ⊢
  obtain ⟨N, hN⟩ : ∃ N, l.length = N := ⟨_, rfl⟩
  have HN2 := Lib.hid hN
  have HL := Lib.hid h
  rw [hN] at hup hl hnl ⊢
  rw [hN] at h
  have hNc : N ≤ c ∧ c ≤ maxLen := by obtain ⟨_, _, hv, h1, h2, _⟩ := h; injection hv with _ e2 e3; subst e3; exact ⟨by omega, h2⟩
  obtain ⟨hNc, hcm⟩ := hNc
  have htk : (l.take n).length = n := by rw [List.length_take, hN]; omega
  have hdl : (l.drop n).length = N - n := by rw [List.length_drop, hN]
  obtain ⟨e0, he0⟩ : ∃ x, e.1 = x := ⟨_, rfl⟩
  obtain ⟨e1, he1⟩ : ∃ x, e.2.1 = x := ⟨_, rfl⟩
  obtain ⟨e2, he2⟩ : ∃ x, e.2.2 = x := ⟨_, rfl⟩
  rw [he0] at hup ⊢
  rw [he1, he2]
  obtain ⟨W0, hW0⟩ : ∃ W, w.alloc (.cells #[.int .u64 (e0 : Int), .int .u64 (e1 : Int), .int .u64 (e2 : Int)] 41) = W := ⟨_, rfl⟩
  have p0 : W0.heap[w.heap.size]? = some (.cells #[.int .u64 (e0 : Int), .int .u64 (e1 : Int), .int .u64 (e2 : Int)] 41) := by rw [← hW0]; exact heap_alloc_new w _
  have b0 : Below w.heap.size w W0 := by rw [← hW0]; exact (Below.refl _ w).alloc (Nat.le_refl _) _
  obtain ⟨c0, c1, c2⟩ := box3 p0
  have l0 := lt_of p0
  have HUP := Lib.hid (hup W0 b0)
  have HW0 := Lib.hid hW0
  have P0 := Lib.hid p0
  have B0 := Lib.hid b0
  have HTK := Lib.hid htk
  have HDL := Lib.hid hdl
  have HINS := Lib.hid hins
  have HE := Lib.hid (show e = (e0, e1, e2) by rw [← he0, ← he1, ← he2])
  clear hup hW0 p0 b0 h htk hdl hins he0 he1 he2 hn hR
  go_enter Try.func53, Try.ntmps53
  go_upto_region 1 with (fail)
  rw [HW0.out]
  clear HW0
  go_upto_region 2 with (go_at_call 61; (with_reducible refine HUP.out.mono ?_); rintro r w1 ⟨rfl, hb⟩; have hp := (hb.block _ l0).trans P0.out; have P1 := Lib.hid hp; have B1 := Lib.hid (thn B0.out hb); obtain ⟨d0, d1, d2⟩ := box3 hp; have l1 := lt_of hp; clear hb hp)
  have lt := (HL.out.below B1.out).take n n (by rw [HN2.out]; exact hnl) (Nat.le_refl _) (by omega)
  have LD := Lib.hid (fun (A' : Option Addr) (hA' : ∀ b off, A = some ⟨b, off, none⟩ → n < c → A' = some ⟨b, off + n * evL.size, none⟩) => (HL.out.below B1.out).drop n (by rw [HN2.out]; exact hnl) A' hA')
  rw [HN2.out] at LD
  have lt2 : Lies evL w1 w.heap.size (.slice A (l.take n).length (l.take n).length) (l.take n) := by rw [HTK.out]; exact lt
  have LT := Lib.hid lt2
  have hB1 : w.heap.size ≤ w1.heap.size := B1.out.size
  have hmx : c ≤ 9223372036854775807 := by unfold maxLen at hcm; omega
  clear lt lt2 HUP P0 B0 HL
  have happ1 : (l.take n).length + 1 ≤ 10000000 := by rw [HTK.out]; omega
  have happ2 : (l.take n ++ [e]).length + (l.drop n).length ≤ 10000000 := by rw [List.length_append, HTK.out, HDL.out]; simp; omega
  have H1 := Lib.hid happ1
  have H2 := Lib.hid happ2
  clear happ1 happ2
  obtain ⟨T, hT⟩ : ∃ T, l.take n = T := ⟨_, rfl⟩
  obtain ⟨D, hD⟩ : ∃ D, l.drop n = D := ⟨_, rfl⟩
  rw [hT] at LT H1 H2 HTK HINS
  rw [hD] at LD H2 HDL HINS
  clear hT hD
  have hE := HE.out
  subst hE
  clear HE
  rcases hA with ⟨rfl, rfl⟩ | ⟨b, off, rfl⟩
  ·
    obtain rfl : N = 0 := by omega
    obtain rfl : n = 0 := by omega
    have ht0 : T = [] := List.eq_nil_of_length_eq_zero HTK.out
    subst ht0
    have hld := LD.out none (fun b off e _ => by cases e)
    have HLD := Lib.hid hld
    clear LD hld
    go_region_law (first
      | (refine step_clip 41 _ 24 info_event Try.underlying27 (by rfl) (by decide) (by rfl) _ _ (by rfl) [] [(e0, e1, e2)] (by rfl) (by simp) (lies_drew LT.out hB1 _) (fun _ => rfl) (by rfl) (lit_ev _ _ _ rfl (e0, e1, e2)) (by simp) H1.out ?_; intro v1 w2 o2 b2; have O2 := Lib.hid o2; have B2 := Lib.hid b2; have L2 := Lib.hid ((lies_drew HLD.out hB1 _).keep (fun b hb => b2.block b (by simp; omega))); clear o2 b2)
      | (refine step_app 41 _ 24 info_event Try.underlying27 (by rfl) (by decide) (by decide) (by rfl) _ _ (by rfl) w.heap.size _ _ ([] ++ [(e0, e1, e2)]) D w.heap.size (by rfl) (own_le O2.out (by simp; omega)) (by rfl) L2.out (ev_one _) H2.out (by have := B2.out.size; simp at this; omega) ?_; intro v3 w3 o3 g3))
    all_goals
      go_wp2
      all_goals
        go_ret
        have bw := thn (B1.out.drew.alloc hB1 _) B2.out
        exact ⟨_, rfl, by rw [HINS.out]; exact o3, bw.grown g3 bw.size (fun q hq => ((own_le O2.out (base' := w.heap.size) (by simp; omega)).lt q hq).1)⟩
  ·
    obtain ⟨A', hA'⟩ : ∃ A' : Option Addr, (if c = n then some (⟨b, off, none⟩ : Addr) else some ⟨b, off + n * 3, none⟩) = A' := ⟨_, rfl⟩
    have hld := LD.out A' (fun b1 off1 e2 hlt => by cases e2; rw [← hA', if_neg (by omega)]; rfl)
    rw [← hA'] at hld
    have HLD := Lib.hid hld
    clear LD hld hA'
    have hnz : (n : Int) ≤ c := by omega
    have hnN : (n : Int) ≤ N := by omega
    have hNz : (N : Int) ≤ c := by omega
    go_region_law (first
      | (refine step_clip 41 _ 24 info_event Try.underlying27 (by rfl) (by decide) (by rfl) _ _ (by rfl) T [(e0, e1, e2)] (by rfl) HTK.out.symm (lies_drew LT.out hB1 _) (fun h => by cases h) (by rfl) (lit_ev _ _ _ rfl (e0, e1, e2)) (by simp) H1.out ?_; intro v1 w2 o2 b2; have O2 := Lib.hid o2; have B2 := Lib.hid b2; have L2 := Lib.hid ((lies_drew HLD.out hB1 _).keep (fun b hb => b2.block b (by simp; omega))); clear o2 b2)
      | (refine step_app 41 _ 24 info_event Try.underlying27 (by rfl) (by decide) (by decide) (by rfl) _ _ (by rfl) w.heap.size _ _ (T ++ [(e0, e1, e2)]) D w.heap.size (by rfl) (own_le O2.out (by simp; omega)) (by rfl) L2.out (ev_one _) H2.out (by have := B2.out.size; simp at this; omega) ?_; intro v3 w3 o3 g3))
    all_goals
      go_wp2
      all_goals
        go_ret
        have bw := thn (B1.out.drew.alloc hB1 _) B2.out
        exact ⟨_, rfl, by rw [HINS.out]; exact o3, bw.grown g3 bw.size (fun q hq => ((own_le O2.out (base' := w.heap.size) (by simp; omega)).lt q hq).1)⟩
end Go.Proofs.Ythncmjimfkbofaa
end
section
/- The contracts of buffer.fronts, cut, Move and Push. -/
namespace Go.Proofs.Ythncmjimfkbofaa
set_option linter.unusedVariables false
open Go.RowKit Go.Shelf Go.Proofs.Rw Go.Proofs.Lh Go.Proofs.Bu

/-- A buffer that the model bears. -/
structure Okb (b : Bf) : Prop where
  late : b.late < 18446744073709551616
  room : b.room ≤ 1000000
  mark : b.mark < 18446744073709551616
  front : b.front < 18446744073709551616
  len : b.evs.length ≤ 100000
  sd : Sd b.evs

def frontsL (b : Bf) : List Nat := [b.front, b.mark - min b.mark b.late] ++ (if h : b.room < b.evs.length then [(b.evs[b.evs.length - b.room - 1]'(by omega)).1] else [])
theorem gre_fronts (b : Bf) : gre (frontsL b) = frontB b.late b.room b.mark b.front b.evs := by
  unfold frontsL frontB
  split
  · rename_i h
    rw [edge_at h]
    have : b.evs[b.evs.length - b.room - 1]'(by omega) = b.evs[b.evs.length - 1 - b.room]'(by omega) := by congr 1; omega
    rw [this]
    simp [gre]
    omega
  · rename_i h
    rw [edge_few (by omega)]
    simp [gre]
    omega
theorem fronts_len (b : Bf) : (frontsL b).length ≤ 3 := by
  unfold frontsL
  split <;> simp

set_option maxRecDepth 100000 in
set_option maxHeartbeats 2000000 in
theorem fronts_any (b : Bf) (hb : Okb b) (w : World) (A : Option Addr) (c : Nat) (h : Lies evL w w.heap.size (.slice A b.evs.length c) b.evs) :
    Calls Try.prog 73 #[bufV b A c] w fun e w' => ∃ A' c', e = .returned (.slice A' (frontsL b).length c') ∧ Lies nuL w' w'.heap.size (.slice A' (frontsL b).length c') (frontsL b) ∧ Below w.heap.size w w' := by
  obtain ⟨late, room, mark, front, evs⟩ := b
  have h1 := hb.late
  have h2 := hb.room
  have h3 := hb.mark
  have h4 := hb.front
  have h5 := hb.len
  dsimp only at h1 h2 h3 h4 h5 h ⊢
  unfold bufV bval
  dsimp only
  clear hb
  obtain ⟨d, hd⟩ : ∃ d, mark - min mark late = d := ⟨_, rfl⟩
  have HDZ := Lib.hid (show ((mark : Int) - (if late < mark then (late : Int) else (mark : Int))) = (d : Int) by split <;> omega)
  have hdb : d < 18446744073709551616 := by omega
  obtain ⟨N, hN⟩ : ∃ N, evs.length = N := ⟨_, rfl⟩
  obtain ⟨W0, hW0⟩ : ∃ W, w.alloc (.cells #[.int .u64 (late : Int), .int .i64 (room : Int), .int .u64 (mark : Int), .int .u64 (front : Int), .slice A N c] 33) = W := ⟨_, rfl⟩
  have p0 : W0.heap[w.heap.size]? = some (.cells #[.int .u64 (late : Int), .int .i64 (room : Int), .int .u64 (mark : Int), .int .u64 (front : Int), .slice A N c] 33) := by rw [← hW0]; exact heap_alloc_new w _
  have b0 : Below w.heap.size w W0 := by rw [← hW0]; exact (Below.refl _ w).alloc (Nat.le_refl _) _
  obtain ⟨⟨c0, c1, c2, c3, c4⟩, -⟩ := box5 p0
  have l0 := lt_of p0
  obtain ⟨W1, hW1⟩ : ∃ W, W0.alloc (.cells #[.int .u64 (front : Int), .int .u64 (d : Int)] 22) = W := ⟨_, rfl⟩
  have o1 : OwnN W1 w.heap.size (.slice (some ⟨W0.heap.size, 0, none⟩) 2 2) [front, d] := by rw [← hW1]; exact own_new W0 22 #[.int .u64 (front : Int), .int .u64 (d : Int)] 2 w.heap.size [front, d] rfl rfl b0.size (by unfold maxLen; omega)
  have b1 : Below w.heap.size w W1 := by rw [← hW1]; exact b0.alloc b0.size _
  have p1 : W1.heap[w.heap.size]? = some (.cells #[.int .u64 (late : Int), .int .i64 (room : Int), .int .u64 (mark : Int), .int .u64 (front : Int), .slice A N c] 33) := by rw [← hW1, Below.heap_alloc _ _ _ l0]; exact p0
  obtain ⟨⟨d0, d1, d2, d3, d4⟩, -⟩ := box5 p1
  have l1 := lt_of p1
  have hL1 := (h.below b1).mono b1.size
  have HW0 := Lib.hid hW0
  have HW1 := Lib.hid hW1
  have O1 := Lib.hid o1
  have B1 := Lib.hid b1
  have HD := Lib.hid hd
  by_cases hr : room < N
  · obtain ⟨i, hi⟩ : ∃ i, N - room - 1 = i := ⟨_, rfl⟩
    have hiN : i < N := by omega
    have hiz : (N : Int) - room - 1 = i := by omega
    have hil : i < evs.length := by omega
    have hfl : frontsL ⟨late, room, mark, front, evs⟩ = [front, d] ++ [evs[i].1] := by
      unfold frontsL
      dsimp only
      rw [dif_pos (by omega), hd]
      have : evs[evs.length - room - 1]'(by omega) = evs[i] := by congr 1; omega
      rw [this]
    rw [hfl]
    rw [hN] at hL1 ⊢
    have hLL : Lies evL W1 w.heap.size (.slice A evs.length c) evs := h.below b1
    obtain ⟨bb, off, rfl, hbb, -, hc⟩ := ev_at hLL (by omega)
    obtain ⟨q0, -, -⟩ := hc i hil
    generalize evs[i].1 = x at *
    clear hc hL1 hLL h hN hW0 hW1 o1 b1 hd hfl p0 p1 b0
    have hbb1 : bb < W1.heap.size := by omega
    go_enter Try.func73, Try.ntmps73
    go_upto_region 1 with (fail)
    rw [HW0.out]
    go_upto_region 2 with (fail)
    rw [HDZ.out, HW1.out]
    go_upto_region 4 with (fail)
    go_wp2_with (at_builtin; refine wpList_app 22 _ 8 info_u64 Try.underlying101 rfl (by decide) (by decide) _ rfl _ _ rfl w.heap.size _ _ [front, d] [x] _ rfl (World.ownsRow.alloc O1.out _) rfl (lit_tick _ _ x) (nu_one _) (by simp) (by have := B1.out.size; simp; omega) ?_; intro v' w3 ho3 hg3; have HO := Lib.hid ho3; have HG := Lib.hid hg3; clear ho3 hg3)
    all_goals
      go_ret
      obtain ⟨A', c', rfl, -, -⟩ := own_form HO.out
      exact ⟨A', c', rfl, Lies.of_own HO.out, (B1.out.alloc B1.out.size _).grown HG.out (by have := B1.out.size; simp; omega) (fun q hq => (O1.out.lt q hq).1)⟩
  · have hfl : frontsL ⟨late, room, mark, front, evs⟩ = [front, d] := by
      unfold frontsL
      dsimp only
      rw [dif_neg (by omega), hd]
      rfl
    rw [hfl]
    rw [hN] at hL1 ⊢
    have hrz : (N : Int) - room ≤ 0 := by omega
    clear hL1 h hN hW0 hW1 o1 b1 hd hfl p0 p1 b0
    go_enter Try.func73, Try.ntmps73
    go_upto_region 1 with (fail)
    rw [HW0.out]
    go_upto_region 2 with (fail)
    rw [HDZ.out, HW1.out]
    go_wp2
    all_goals
      go_ret
      exact ⟨_, _, rfl, Lies.of_own O1.out, B1.out⟩
set_option maxRecDepth 100000 in
set_option maxHeartbeats 4000000 in
theorem cutE_any (b : Bf) (h6 : Sd b.evs) (h5 : b.evs.length ≤ 100000) (w : World) (A : Option Addr) (c B : Nat) (hB : B ≤ w.heap.size) (h : Lies evL w B (.slice A b.evs.length c) b.evs) (hA : Fine A c) :
    Calls Try.prog 35 #[bufV b A c] w fun e w' => ∃ A1 c1 A2 c2, e = .returned (.tuple #[bufV { b with evs := stayL b.front b.evs } A1 c1, .slice A2 (outL b.front b.evs).length c2]) ∧
      Lies evL w' B (.slice A1 (stayL b.front b.evs).length c1) (stayL b.front b.evs) ∧ Lies evL w' B (.slice A2 (outL b.front b.evs).length c2) (outL b.front b.evs) ∧ Fine A1 c1 ∧ Fine A2 c2 ∧ Below w.heap.size w w' ∧ Sub A1 A ∧ Sub A2 A := by
  obtain ⟨late, room, mark, front, evs⟩ := b
  dsimp only at h5 h6 h ⊢
  unfold bufV bval
  dsimp only
  obtain ⟨n, hn⟩ : ∃ n, (outL front evs).length = n := ⟨_, rfl⟩
  obtain ⟨M, hM⟩ : ∃ M, (stayL front evs).length = M := ⟨_, rfl⟩
  obtain ⟨N, hN⟩ : ∃ N, evs.length = N := ⟨_, rfl⟩
  have hsum : n + M = N := by rw [← hn, ← hM, ← hN]; exact len_parts h6 front
  obtain ⟨W0, hW0, hsz, p0, p1, b0⟩ := heap_two w (.cells #[.int .u64 (late : Int), .int .i64 (room : Int), .int .u64 (mark : Int), .int .u64 (front : Int), .slice A N c] 33) (.cells #[.int .u64 0, .int .i64 0, .int .u64 0, .int .u64 0, .slice none 0 0] 33)
  have hup := upTo_any evs h6 (by omega) front W0 A c B (Nat.le_trans hB b0.size) (h.keep fun q hq => b0.block q (by omega))
  have hNc : N ≤ c ∧ c ≤ maxLen := by obtain ⟨_, _, hv, h1, h2, _⟩ := h; injection hv with _ e2 e3; subst e3; exact ⟨by omega, h2⟩
  obtain ⟨hNc, hcm⟩ := hNc
  have ht := h.take n n (by omega) (Nat.le_refl _) (by omega)
  rw [← hn, ← out_take h6] at ht
  have hd := fun A' hA' => h.drop n (by omega) A' hA'
  rw [show evs.drop n = stayL front evs by rw [← hn, ← stay_drop h6]] at hd
  rw [hn] at ht hup ⊢
  rw [hN] at hup hd ⊢
  rw [hM]
  rw [show N - n = M by omega] at hd
  have hd2 : ∀ A', (∀ b off, A = some ⟨b, off, none⟩ → n < c → A' = some ⟨b, off + n * evL.size, none⟩) → Lies evL w B (.slice A' M M) (stayL front evs) := fun A' hA' => by
    obtain ⟨A3, c3, hv, e1, e2, e3⟩ := hd A' hA'
    injection hv with x1 x2 x3
    subst x1
    exact ⟨A', M, by rw [hM], by omega, by omega, e3⟩
  have c1 := fun W => eclip_any A n c (by omega) hcm W
  have c2 := fun A' W => eclip_any A' M (c - n) (by omega) (by omega) W
  have hmx : c ≤ 9223372036854775807 := by unfold maxLen at hcm; omega
  obtain ⟨⟨z0, z1, z2, z3, z4⟩, -⟩ := box5 p0
  have l0 := lt_of p0
  have l01 := lt_of p1
  have HUP := Lib.hid hup
  have HC1 := Lib.hid c1
  have HC2 := Lib.hid c2
  have HW0 := Lib.hid hW0
  have P0 := Lib.hid p0
  have P1 := Lib.hid p1
  have B0 := Lib.hid b0
  have HT := Lib.hid ht
  have hMe : (N : Int) - n = M := by omega
  have hMn : N - n = M := by omega
  clear hup c1 c2 hW0 p0 p1 b0 ht hd h hn hN hsz
  rcases hA with ⟨rfl, rfl⟩ | ⟨b, off, rfl⟩
  · obtain rfl : N = 0 := by omega
    obtain rfl : n = 0 := by omega
    obtain rfl : M = 0 := by omega
    have hd3 := hd2 none (fun _ _ e _ => by cases e)
    have HD := Lib.hid hd3
    clear hd2 hd3 hM
    go_enter Try.func35, Try.ntmps35
    go_upto_region 1 with (fail)
    rw [← HW0.out]
    go_upto_region 2 with (go_at_call 61; (with_reducible refine HUP.out.mono ?_); rintro r w1 ⟨rfl, hb⟩; have P0' := (hb.block _ l0).trans P0.out; have P1' := (hb.block _ l01).trans P1.out; have PA := Lib.hid P0'; have PB := Lib.hid P1'; have B1 := Lib.hid (thn B0.out hb); obtain ⟨⟨c0, c1, c2, c3, c4⟩, f0⟩ := box5 P0'; have l1 := lt_of P0'; clear hb P0' P1')
    go_upto_region 3 with (go_at_call 62; (with_reducible refine (HC1.out _).mono ?_); rintro r w2 ⟨rfl, rfl⟩)
    go_upto_region 4 with (go_at_call 62; (with_reducible refine (HC2.out _ _).mono ?_); rintro r w2 ⟨rfl, rfl⟩)
    obtain ⟨W2, hW2⟩ : ∃ W, w1.setCell ⟨w.heap.size, 4, none⟩ (.slice none 0 0) = W := ⟨_, rfl⟩
    have q0 : W2.heap[w.heap.size]? = some (.cells #[.int .u64 (late : Int), .int .i64 (room : Int), .int .u64 (mark : Int), .int .u64 (front : Int), .slice none 0 0] 33) := by rw [← hW2, heap_setCell_same _ _ 4 _ _ _ PA.out]; rfl
    have q1 : W2.heap[w.heap.size + 1]? = some (.cells #[.int .u64 0, .int .i64 0, .int .u64 0, .int .u64 0, .slice none 0 0] 33) := by rw [← hW2, Below.heap_setCell _ _ _ _ (by simp)]; exact PB.out
    have B2 : Below w.heap.size w W2 := by rw [← hW2]; exact B1.out.setCell (p := ⟨w.heap.size, 4, none⟩) (Nat.le_refl _) _
    rw [hW2]
    obtain ⟨W5, hW5, q5, g5⟩ := fin5 q1 (.int .u64 (late : Int)) (.int .i64 (room : Int)) (.int .u64 (mark : Int)) (.int .u64 (front : Int)) (.slice none 0 0)
    have B5 := Lib.hid (below_row B2 g5 (Nat.le_succ _))
    obtain ⟨⟨d0, d1, d2, d3, d4⟩, f1⟩ := box5 q0
    obtain ⟨⟨x0, x1, x2, x3, x4⟩, f2⟩ := box5 q1
    obtain ⟨⟨y0, y1, y2, y3, y4⟩, -⟩ := box5 q5
    have l2 := lt_of q0
    have l3 := lt_of q1
    have HW5 := Lib.hid hW5
    have Y := Lib.hid (And.intro y0 (And.intro y1 (And.intro y2 (And.intro y3 y4))))
    clear q0 q1 hW2 hW5 q5 g5 B2 PA PB y0 y1 y2 y3 y4 c0 c1 c2 c3 c4 f0
    go_wp2
    rw [HW5.out]
    obtain ⟨y0, y1, y2, y3, y4⟩ := Y.out
    refine bodyPost_ret (v := .tuple #[bval (late : Int) (room : Int) (mark : Int) (front : Int) (.slice none 0 0), .slice none 0 0]) (by simp [results, Try.results35, go_sem, y0, y1, y2, y3, y4]) rfl ⟨_, _, _, _, rfl, ?_, ?_, ?_, ?_, B5.out, fun _ _ e => (by cases e), fun _ _ e => (by cases e)⟩
    · exact HD.out.keep fun q hq => B5.out.block q (by omega)
    · exact HT.out.keep fun q hq => B5.out.block q (by omega)
    · exact .inl ⟨rfl, rfl⟩
    · exact .inl ⟨rfl, rfl⟩
  by_cases hcn : c = n
  · subst hcn
    obtain rfl : N = c := by omega
    obtain rfl : M = 0 := by omega
    have hd3 := hd2 (some ⟨b, off, none⟩) (fun _ _ e hlt => by omega)
    have HD := Lib.hid hd3
    have c2' := HC2.out
    simp only [Nat.sub_self] at c2'
    have HC2 := Lib.hid c2'
    clear c2'
    clear hd2 hd3 hM
    go_enter Try.func35, Try.ntmps35
    go_upto_region 1 with (fail)
    rw [← HW0.out]
    go_upto_region 2 with (go_at_call 61; (with_reducible refine HUP.out.mono ?_); rintro r w1 ⟨rfl, hb⟩; have P0' := (hb.block _ l0).trans P0.out; have P1' := (hb.block _ l01).trans P1.out; have PA := Lib.hid P0'; have PB := Lib.hid P1'; have B1 := Lib.hid (thn B0.out hb); obtain ⟨⟨c0, c1, c2, c3, c4⟩, f0⟩ := box5 P0'; have l1 := lt_of P0'; clear hb P0' P1')
    go_upto_region 3 with (go_at_call 62; (with_reducible refine (HC1.out _).mono ?_); rintro r w2 ⟨rfl, rfl⟩)
    go_upto_region 4 with (go_at_call 62; (with_reducible refine (HC2.out _ _).mono ?_); rintro r w2 ⟨rfl, rfl⟩)
    obtain ⟨W2, hW2⟩ : ∃ W, w1.setCell ⟨w.heap.size, 4, none⟩ (.slice (some ⟨b, off, none⟩) 0 0) = W := ⟨_, rfl⟩
    have q0 : W2.heap[w.heap.size]? = some (.cells #[.int .u64 (late : Int), .int .i64 (room : Int), .int .u64 (mark : Int), .int .u64 (front : Int), .slice (some ⟨b, off, none⟩) 0 0] 33) := by rw [← hW2, heap_setCell_same _ _ 4 _ _ _ PA.out]; rfl
    have q1 : W2.heap[w.heap.size + 1]? = some (.cells #[.int .u64 0, .int .i64 0, .int .u64 0, .int .u64 0, .slice none 0 0] 33) := by rw [← hW2, Below.heap_setCell _ _ _ _ (by simp)]; exact PB.out
    have B2 : Below w.heap.size w W2 := by rw [← hW2]; exact B1.out.setCell (p := ⟨w.heap.size, 4, none⟩) (Nat.le_refl _) _
    rw [hW2]
    obtain ⟨W5, hW5, q5, g5⟩ := fin5 q1 (.int .u64 (late : Int)) (.int .i64 (room : Int)) (.int .u64 (mark : Int)) (.int .u64 (front : Int)) (.slice (some ⟨b, off, none⟩) 0 0)
    have B5 := Lib.hid (below_row B2 g5 (Nat.le_succ _))
    obtain ⟨⟨d0, d1, d2, d3, d4⟩, f1⟩ := box5 q0
    obtain ⟨⟨x0, x1, x2, x3, x4⟩, f2⟩ := box5 q1
    obtain ⟨⟨y0, y1, y2, y3, y4⟩, -⟩ := box5 q5
    have l2 := lt_of q0
    have l3 := lt_of q1
    have HW5 := Lib.hid hW5
    have Y := Lib.hid (And.intro y0 (And.intro y1 (And.intro y2 (And.intro y3 y4))))
    clear q0 q1 hW2 hW5 q5 g5 B2 PA PB y0 y1 y2 y3 y4 c0 c1 c2 c3 c4 f0
    go_wp2
    rw [HW5.out]
    obtain ⟨y0, y1, y2, y3, y4⟩ := Y.out
    refine bodyPost_ret (v := .tuple #[bval (late : Int) (room : Int) (mark : Int) (front : Int) (.slice (some ⟨b, off, none⟩) 0 0), .slice (some ⟨b, off, none⟩) N N]) (by simp [results, Try.results35, go_sem, y0, y1, y2, y3, y4]) rfl ⟨_, _, _, _, rfl, ?_, ?_, ?_, ?_, B5.out, fun _ _ e => (by cases e; exact ⟨_, rfl⟩), fun _ _ e => (by cases e; exact ⟨_, rfl⟩)⟩
    · exact HD.out.keep fun q hq => B5.out.block q (by omega)
    · exact HT.out.keep fun q hq => B5.out.block q (by omega)
    · exact .inr ⟨_, _, rfl⟩
    · exact .inr ⟨_, _, rfl⟩
  · have hd3 := hd2 (some ⟨b, off + n * 3, none⟩) (fun b1 off1 e hlt => by cases e; rfl)
    have HD := Lib.hid hd3
    have hnz : (n : Int) ≤ N := by omega
    have hNz : (N : Int) ≤ c := by omega
    clear hd2 hd3 hM
    go_enter Try.func35, Try.ntmps35
    go_upto_region 1 with (fail)
    rw [← HW0.out]
    go_upto_region 2 with (go_at_call 61; (with_reducible refine HUP.out.mono ?_); rintro r w1 ⟨rfl, hb⟩; have P0' := (hb.block _ l0).trans P0.out; have P1' := (hb.block _ l01).trans P1.out; have PA := Lib.hid P0'; have PB := Lib.hid P1'; have B1 := Lib.hid (thn B0.out hb); obtain ⟨⟨c0, c1, c2, c3, c4⟩, f0⟩ := box5 P0'; have l1 := lt_of P0'; clear hb P0' P1')
    go_upto_region 3 with (go_at_call 62; (with_reducible refine (HC1.out _).mono ?_); rintro r w2 ⟨rfl, rfl⟩)
    go_upto_region 4 with (go_at_call 62; (with_reducible refine (HC2.out _ _).mono ?_); rintro r w2 ⟨rfl, rfl⟩)
    obtain ⟨W2, hW2⟩ : ∃ W, w1.setCell ⟨w.heap.size, 4, none⟩ (.slice (some ⟨b, off + n * 3, none⟩) M M) = W := ⟨_, rfl⟩
    have q0 : W2.heap[w.heap.size]? = some (.cells #[.int .u64 (late : Int), .int .i64 (room : Int), .int .u64 (mark : Int), .int .u64 (front : Int), .slice (some ⟨b, off + n * 3, none⟩) M M] 33) := by rw [← hW2, heap_setCell_same _ _ 4 _ _ _ PA.out]; rfl
    have q1 : W2.heap[w.heap.size + 1]? = some (.cells #[.int .u64 0, .int .i64 0, .int .u64 0, .int .u64 0, .slice none 0 0] 33) := by rw [← hW2, Below.heap_setCell _ _ _ _ (by simp)]; exact PB.out
    have B2 : Below w.heap.size w W2 := by rw [← hW2]; exact B1.out.setCell (p := ⟨w.heap.size, 4, none⟩) (Nat.le_refl _) _
    rw [hW2]
    obtain ⟨W5, hW5, q5, g5⟩ := fin5 q1 (.int .u64 (late : Int)) (.int .i64 (room : Int)) (.int .u64 (mark : Int)) (.int .u64 (front : Int)) (.slice (some ⟨b, off + n * 3, none⟩) M M)
    have B5 := Lib.hid (below_row B2 g5 (Nat.le_succ _))
    obtain ⟨⟨d0, d1, d2, d3, d4⟩, f1⟩ := box5 q0
    obtain ⟨⟨x0, x1, x2, x3, x4⟩, f2⟩ := box5 q1
    obtain ⟨⟨y0, y1, y2, y3, y4⟩, -⟩ := box5 q5
    have l2 := lt_of q0
    have l3 := lt_of q1
    have HW5 := Lib.hid hW5
    have Y := Lib.hid (And.intro y0 (And.intro y1 (And.intro y2 (And.intro y3 y4))))
    clear q0 q1 hW2 hW5 q5 g5 B2 PA PB y0 y1 y2 y3 y4 c0 c1 c2 c3 c4 f0
    go_wp2
    rw [HW5.out]
    obtain ⟨y0, y1, y2, y3, y4⟩ := Y.out
    refine bodyPost_ret (v := .tuple #[bval (late : Int) (room : Int) (mark : Int) (front : Int) (.slice (some ⟨b, off + n * 3, none⟩) M M), .slice (some ⟨b, off, none⟩) n n]) (by simp [results, Try.results35, go_sem, y0, y1, y2, y3, y4]) rfl ⟨_, _, _, _, rfl, ?_, ?_, ?_, ?_, B5.out, fun _ _ e => (by cases e; exact ⟨_, rfl⟩), fun _ _ e => (by cases e; exact ⟨_, rfl⟩)⟩
    · exact HD.out.keep fun q hq => B5.out.block q (by omega)
    · exact HT.out.keep fun q hq => B5.out.block q (by omega)
    · exact .inr ⟨_, _, rfl⟩
    · exact .inr ⟨_, _, rfl⟩
end Go.Proofs.Ythncmjimfkbofaa
end
section
/- The contracts of buffer.Move and Push. -/
namespace Go.Proofs.Ythncmjimfkbofaa
set_option linter.unusedVariables false
open Go.RowKit Go.Shelf Go.Proofs.Rw Go.Proofs.Lh Go.Proofs.Bu

/-- A buffer and events, told. -/
def Told (w w' : World) (A : Option Addr) (e : Ending) (r : Bf × List Ev) : Prop :=
  ∃ A1 c1 A2 c2, e = .returned (.tuple #[bufV r.1 A1 c1, .slice A2 r.2.length c2, .int .i64 0]) ∧ Evs w' A1 c1 r.1.evs ∧ Evs w' A2 c2 r.2 ∧ Below w.heap.size w w' ∧ From w A A1 ∧ From w A A2
/-- What is told where there is an error. -/
abbrev badV (code : Int) : Value := .tuple #[bval 0 0 0 0 (.slice none 0 0), .slice none 0 0, .int .i64 code]

theorem gre_two (a b : Nat) : gre [a, b] = max a b := by simp [gre]

set_option maxRecDepth 100000 in
set_option maxHeartbeats 4000000 in
theorem bmove_bad (b : Bf) (t : Nat) (ht : 9223372036854775807 < t) (w : World) (A : Option Addr) (c : Nat) :
    Calls Try.prog 54 #[bufV b A c, .int .u64 (t : Int)] w fun e w' => e = .returned (badV 6) ∧ Below w.heap.size w w' := by
  obtain ⟨late, room, mark, front, evs⟩ := b
  unfold bufV bval
  dsimp only
  obtain ⟨N, hN⟩ : ∃ N, evs.length = N := ⟨_, rfl⟩
  rw [hN]
  obtain ⟨W0, hW0, hsz, p0, p1, b0⟩ := heap_two w (.cells #[.int .u64 (late : Int), .int .i64 (room : Int), .int .u64 (mark : Int), .int .u64 (front : Int), .slice A N c] 33) (.cells #[.int .u64 0, .int .i64 0, .int .u64 0, .int .u64 0, .slice none 0 0] 33)
  obtain ⟨⟨x0, x1, x2, x3, x4⟩, f1⟩ := box5 p1
  have l1 := lt_of p1
  obtain ⟨W5, hW5, q5, g5⟩ := fin5 p1 (.int .u64 0) (.int .i64 0) (.int .u64 0) (.int .u64 0) (.slice none 0 0)
  obtain ⟨⟨y0, y1, y2, y3, y4⟩, -⟩ := box5 q5
  have B5 := Lib.hid (below_row b0 g5 (Nat.le_succ _))
  have HW0 := Lib.hid hW0
  have HW5 := Lib.hid hW5
  have Y := Lib.hid (And.intro y0 (And.intro y1 (And.intro y2 (And.intro y3 y4))))
  clear hW0 hW5 p0 p1 q5 g5 b0 hsz y0 y1 y2 y3 y4 hN
  go_enter Try.func54, Try.ntmps54
  go_upto_region 1 with (fail)
  rw [← HW0.out]
  go_wp2
  rw [HW5.out]
  obtain ⟨y0, y1, y2, y3, y4⟩ := Y.out
  refine bodyPost_ret (v := badV 6) (by simp [results, Try.results54, go_sem, y0, y1, y2, y3, y4]) rfl ⟨rfl, B5.out⟩

set_option maxRecDepth 100000 in
set_option maxHeartbeats 4000000 in
theorem bmove_any (b : Bf) (hb : Okb b) (t : Nat) (ht : t ≤ 9223372036854775807) (w : World) (A : Option Addr) (c : Nat) (hev : Evs w A c b.evs) :
    Calls Try.prog 54 #[bufV b A c, .int .u64 (t : Int)] w fun e w' => Told w w' A e (moveB b t) := by
  have h := hev.lies
  have hA := hev.fine
  have hty := hev.typed
  clear hev
  obtain ⟨late, room, mark, front, evs⟩ := b
  obtain ⟨m, hm⟩ : ∃ m, max mark t = m := ⟨_, rfl⟩
  obtain ⟨G, hG⟩ : ∃ G, frontB late room m front evs = G := ⟨_, rfl⟩
  have hmv : moveB ⟨late, room, mark, front, evs⟩ t = (⟨late, room, m, G, stayL G evs⟩, outL G evs) := by
    unfold moveB settleB
    dsimp only
    rw [hm, hG]
  rw [hmv]
  have ok2 : Okb ⟨late, room, m, front, evs⟩ := ⟨hb.late, hb.room, by have := hb.mark; dsimp only at this ⊢; omega, hb.front, hb.len, hb.sd⟩
  have hfr := gre_fronts ⟨late, room, m, front, evs⟩
  dsimp only at hfr
  rw [hG] at hfr
  have hfl := fronts_len ⟨late, room, m, front, evs⟩
  obtain ⟨F, hF⟩ : ∃ F, frontsL ⟨late, room, m, front, evs⟩ = F := ⟨_, rfl⟩
  have hgr := gre_two mark t
  rw [hm] at hgr
  have k1 := fun W B hB A' c' h' => greatest_any [mark, t] (by simp) W B hB A' c' h'
  rw [hgr] at k1
  have k2 := fun W A' c' h' => fronts_any ⟨late, room, m, front, evs⟩ ok2 W A' c' h'
  rw [hF] at hfr hfl k2
  have k3 := fun W B hB A' c' h' => greatest_any F (by omega) W B hB A' c' h'
  rw [hfr] at k3
  have k4 := fun W A' c' hB h' => cutE_any ⟨late, room, m, G, evs⟩ hb.sd hb.len W A' c' w.heap.size hB h'
  dsimp only at h k2 k4
  unfold bufV bval at k2 k4 ⊢
  dsimp only at k2 k4 ⊢
  obtain ⟨S, hS⟩ : ∃ S, stayL G evs = S := ⟨_, rfl⟩
  obtain ⟨O, hO⟩ : ∃ O, outL G evs = O := ⟨_, rfl⟩
  rw [hS, hO] at k4 ⊢
  clear hb ok2 hmv hG hfr hF hgr hS hO
  obtain ⟨NF, hNF⟩ : ∃ NF, F.length = NF := ⟨_, rfl⟩
  obtain ⟨N, hN⟩ : ∃ N, evs.length = N := ⟨_, rfl⟩
  obtain ⟨W0, hW0, hsz, p0, p1, b0⟩ := heap_two w (.cells #[.int .u64 (late : Int), .int .i64 (room : Int), .int .u64 (mark : Int), .int .u64 (front : Int), .slice A N c] 33) (.cells #[.int .u64 0, .int .i64 0, .int .u64 0, .int .u64 0, .slice none 0 0] 33)
  obtain ⟨⟨x0, x1, x2, x3, x4⟩, f0⟩ := box5 p0
  have l0 := lt_of p0
  -- the literal of two
  obtain ⟨W1, hW1⟩ : ∃ W, W0.alloc (.cells #[.int .u64 (mark : Int), .int .u64 (t : Int)] 22) = W := ⟨_, rfl⟩
  have c1 := k1 W1 (W0.heap.size + 1) (by rw [← hW1]; simp) _ _ (by rw [← hW1]; exact lit_two _ W0 mark t)
  have b1 : Below w.heap.size w W1 := by rw [← hW1]; exact b0.alloc b0.size _
  have e0 : W1.heap[w.heap.size]? = some (.cells #[.int .u64 (late : Int), .int .i64 (room : Int), .int .u64 (mark : Int), .int .u64 (front : Int), .slice A N c] 33) := by rw [← hW1, Below.heap_alloc _ _ _ l0]; exact p0
  have e1 : W1.heap[w.heap.size + 1]? = some (.cells #[.int .u64 0, .int .i64 0, .int .u64 0, .int .u64 0, .slice none 0 0] 33) := by rw [← hW1, Below.heap_alloc _ _ _ (lt_of p1)]; exact p1
  -- the mark
  obtain ⟨W2, hW2⟩ : ∃ W, W1.setCell ⟨w.heap.size, 2, none⟩ (.int .u64 (m : Int)) = W := ⟨_, rfl⟩
  have g0 : W2.heap[w.heap.size]? = some (.cells #[.int .u64 (late : Int), .int .i64 (room : Int), .int .u64 (m : Int), .int .u64 (front : Int), .slice A N c] 33) := by rw [← hW2, heap_setCell_same _ _ 2 _ _ _ e0]; rfl
  have g1 : W2.heap[w.heap.size + 1]? = some (.cells #[.int .u64 0, .int .i64 0, .int .u64 0, .int .u64 0, .slice none 0 0] 33) := by rw [← hW2, Below.heap_setCell _ _ _ _ (by simp)]; exact e1
  have b2 : Below w.heap.size w W2 := by rw [← hW2]; exact b1.setCell (p := ⟨w.heap.size, 2, none⟩) (Nat.le_refl _) _
  have c2 := k2 W2 A c ((h.below b2).mono b2.size)
  rw [hNF] at c2 k3
  rw [hN] at c2 ⊢
  simp only [List.length_cons, List.length_nil, Nat.zero_add, Nat.reduceAdd] at c1
  obtain ⟨⟨y0, y1, y2, y3, y4⟩, -⟩ := box5 e0
  have hf1 : ∀ i, W1.frozen? ⟨w.heap.size, i, none⟩ = false := (box5 e0).2
  have lt1 := lt_of e0
  obtain ⟨⟨z0, z1, z2, z3, z4⟩, -⟩ := box5 g0
  have lt2 := lt_of g0
  have HW0 := Lib.hid hW0
  have HW1 := Lib.hid hW1
  have HW2 := Lib.hid hW2
  have C1 := Lib.hid c1
  have C2 := Lib.hid c2
  have K3 := Lib.hid k3
  have K4 := Lib.hid k4
  have G0 := Lib.hid g0
  have G1 := Lib.hid g1
  have B2 := Lib.hid b2
  have HL := Lib.hid h
  have HNF := Lib.hid hNF
  have HN := Lib.hid hN
  clear hW0 hW1 hW2 c1 c2 k1 k2 k3 k4 g0 g1 b2 h p0 p1 b0 e0 e1 b1 hsz hNF hN hfl hm
  go_enter Try.func54, Try.ntmps54
  go_upto_region 1 with (fail)
  rw [← HW0.out]
  go_upto_region 4 with (go_at_call 31; rw [HW1.out]; (with_reducible refine C1.out.mono ?_); rintro e w' ⟨rfl, rfl⟩)
  rw [HW2.out]
  go_upto_region 5 with (first
    | (go_at_call 73; (with_reducible refine C2.out.mono ?_); rintro e w3 ⟨A3, c3, rfl, hL, hb⟩; have a0 := (hb.block _ lt2).trans G0.out; have a1 := (hb.block _ (lt_of G1.out)).trans G1.out; have P0 := Lib.hid a0; have P1 := Lib.hid a1; have B3 := Lib.hid (thn B2.out hb); have HL3 := Lib.hid hL; have lt3 := lt_of a0; obtain ⟨⟨u0, u1, u2, u3, u4⟩, f3⟩ := box5 a0; clear hb hL a0 a1)
    | (go_at_call 31; (with_reducible refine (K3.out _ _ (Nat.le_refl _) _ _ HL3.out).mono ?_); rintro e w' ⟨rfl, rfl⟩))
  obtain ⟨W4, hW4⟩ : ∃ W, w3.setCell ⟨w.heap.size, 3, none⟩ (.int .u64 (G : Int)) = W := ⟨_, rfl⟩
  have g0 : W4.heap[w.heap.size]? = some (.cells #[.int .u64 (late : Int), .int .i64 (room : Int), .int .u64 (m : Int), .int .u64 (G : Int), .slice A N c] 33) := by rw [← hW4, heap_setCell_same _ _ 3 _ _ _ P0.out]; rfl
  have g1 : W4.heap[w.heap.size + 1]? = some (.cells #[.int .u64 0, .int .i64 0, .int .u64 0, .int .u64 0, .slice none 0 0] 33) := by rw [← hW4, Below.heap_setCell _ _ _ _ (by simp)]; exact P1.out
  have b4 : Below w.heap.size w W4 := by rw [← hW4]; exact B3.out.setCell (p := ⟨w.heap.size, 3, none⟩) (Nat.le_refl _) _
  have c4 := K4.out W4 A c b4.size (HL.out.below b4) hA
  rw [HN.out] at c4
  rw [hW4]
  obtain ⟨⟨v0, v1, v2, v3, v4⟩, -⟩ := box5 g0
  have lt4 := lt_of g0
  have C4 := Lib.hid c4
  have Q0 := Lib.hid g0
  have Q1 := Lib.hid g1
  have B4 := Lib.hid b4
  obtain ⟨NS, hNS⟩ : ∃ N, S.length = N := ⟨_, rfl⟩
  obtain ⟨NO, hNO⟩ : ∃ N, O.length = N := ⟨_, rfl⟩
  rw [hNS, hNO] at C4
  have HNS := Lib.hid hNS
  have HNO := Lib.hid hNO
  clear hW4 g0 g1 b4 c4 u0 u1 u2 u3 u4 z0 z1 z2 z3 z4 y0 y1 y2 y3 y4 x0 x1 x2 x3 x4 f0 f3 hf1 P0 P1 hNS hNO
  go_upto_region 6 with (go_at_call 35; (with_reducible refine C4.out.mono ?_); rintro e w5 ⟨A1, c1, A2, c2, rfl, hL1, hL2, hf1, hf2, hb, hs1, hs2⟩; have a0 := (hb.block _ lt4).trans Q0.out; have a1 := (hb.block _ (lt_of Q1.out)).trans Q1.out; have P0 := Lib.hid a0; have P1 := Lib.hid a1; have B5 := Lib.hid (thn B4.out hb); have hz := hb.size; have HL1 := Lib.hid hL1; have HL2 := Lib.hid hL2; have lt5 := lt_of a0; obtain ⟨⟨u0, u1, u2, u3, u4⟩, f3⟩ := box5 a0; clear hb hL1 hL2 a0 a1)
  obtain ⟨W6, hW6, q6, g6⟩ := fin5 P0.out (.int .u64 (late : Int)) (.int .i64 (room : Int)) (.int .u64 (m : Int)) (.int .u64 (G : Int)) (.slice A1 NS c1)
  rw [hW6]
  have q7 : W6.heap[w.heap.size + 1]? = some (.cells #[.int .u64 0, .int .i64 0, .int .u64 0, .int .u64 0, .slice none 0 0] 33) := (g6.block _ (lt_of P1.out) (by simp)).trans P1.out
  have B6 := Lib.hid (below_row B5.out g6 (Nat.le_refl _))
  obtain ⟨W7, hW7, q8, g7⟩ := fin5 q7 (.int .u64 (late : Int)) (.int .i64 (room : Int)) (.int .u64 (m : Int)) (.int .u64 (G : Int)) (.slice A1 NS c1)
  have B7 := Lib.hid (below_row B6.out g7 (Nat.le_succ _))
  obtain ⟨⟨y0, y1, y2, y3, y4⟩, -⟩ := box5 q6
  obtain ⟨⟨x0, x1, x2, x3, x4⟩, f6⟩ := box5 q7
  obtain ⟨⟨z0, z1, z2, z3, z4⟩, -⟩ := box5 q8
  have l6 := lt_of q6
  have l7 := lt_of q7
  have HW7 := Lib.hid hW7
  have Z := Lib.hid (And.intro z0 (And.intro z1 (And.intro z2 (And.intro z3 z4))))
  have typ : ∀ A', Sub A' A → ∀ b off, A' = some ⟨b, off, none⟩ → ∃ cs fr, W7.heap[b]? = some (.cells cs 41 fr) := fun A' hs b off e => by
    obtain ⟨off', e'⟩ := hs b off e
    obtain ⟨cs, fr, hh⟩ := hty b off' e'
    exact ⟨cs, fr, (B7.out.block b (lt_of hh)).trans hh⟩
  have lies : ∀ (v : Value) (xs : List Ev), Lies evL w5 w.heap.size v xs → Lies evL W7 W7.heap.size v xs := fun v xs hx => (hx.keep fun q hq => (g7.block q (by omega) (by simp; omega)).trans (g6.block q (by omega) (by simp; omega))).mono B7.out.size
  clear hW6 hW7 q6 q7 q8 g6 z0 z1 z2 z3 z4 u0 u1 u2 u3 u4 v0 v1 v2 v3 v4 f3
  go_wp2
  rw [HW7.out]
  obtain ⟨z0, z1, z2, z3, z4⟩ := Z.out
  refine bodyPost_ret (v := .tuple #[bval (late : Int) (room : Int) (m : Int) (G : Int) (.slice A1 NS c1), .slice A2 NO c2, .int .i64 0]) (by simp [results, Try.results54, go_sem, z0, z1, z2, z3, z4]) rfl ⟨_, _, _, _, ?_, ⟨?_, hf1, typ _ hs1⟩, ⟨?_, hf2, typ _ hs2⟩, B7.out, hs1.from, hs2.from⟩
  · show _ = Ending.returned (.tuple #[bval _ _ _ _ (.slice A1 S.length c1), .slice A2 O.length c2, _])
    rw [HNS.out, HNO.out]
  · exact lies _ _ (by rw [← HNS.out] at HL1; exact HL1.out)
  · exact lies _ _ (by rw [← HNO.out] at HL2; exact HL2.out)
end Go.Proofs.Ythncmjimfkbofaa
end
