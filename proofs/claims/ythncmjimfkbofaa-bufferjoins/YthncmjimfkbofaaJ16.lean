/- The contract of the document's split. · The contract of the document's settle. · Rows of buffers: five cells each, and the events that they lead to; buffers as one, in plain mathematics. · slices.SortStableFunc on no events at all. -/
import Derived.Test.YthncmjimfkbofaaJ13
import Derived.Test.YthncmjimfkbofaaJ15
section
/- The contract of the document's split. -/
namespace Go.Proofs.Ythncmjimfkbofaa
set_option linter.unusedVariables false
open Go.RowKit Go.Shelf Go.Proofs.Rw Go.Proofs.Lh Go.Proofs.Bu

theorem out_app (f : Nat) (a b : List Ev) : outL f (a ++ b) = outL f a ++ outL f b := List.filter_append ..
theorem stay_app (f : Nat) (a b : List Ev) : stayL f (a ++ b) = stayL f a ++ stayL f b := List.filter_append ..
theorem out_step {f : Nat} {l : List Ev} {j : Nat} (hj : j < l.length) (h : l[j].1 ≤ f) : outL f (l.take (j + 1)) = outL f (l.take j) ++ [l[j]] ∧ stayL f (l.take (j + 1)) = stayL f (l.take j) := by
  rw [List.take_succ_eq_append_getElem hj, out_app, stay_app]
  simp [Bu.outL, Bu.stayL, h]
theorem stay_step {f : Nat} {l : List Ev} {j : Nat} (hj : j < l.length) (h : ¬ l[j].1 ≤ f) : outL f (l.take (j + 1)) = outL f (l.take j) ∧ stayL f (l.take (j + 1)) = stayL f (l.take j) ++ [l[j]] := by
  rw [List.take_succ_eq_append_getElem hj, out_app, stay_app]
  have h2 : f < l[j].1 := by omega
  simp [Bu.outL, Bu.stayL, h, h2]
/-- Two rows of events of the call's own, not in one block. -/
def Two (w : World) (base : Nat) (v1 v2 : Value) (xs ys : List Ev) : Prop := OwnE w base v1 xs ∧ OwnE w base v2 ys ∧ (v1.ownBlock = none ∨ v1.ownBlock ≠ v2.ownBlock)
theorem Two.left {w w' : World} {base : Nat} {v1 v2 v1' : Value} {xs ys xs' : List Ev} (h : Two w base v1 v2 xs ys) (ho : OwnE w' base v1' xs') (hg : w.grownBy w' v1.ownBlock) (hat : v1'.ownBlock = v1.ownBlock ∨ v1'.ownBlock = some w.heap.size) : Two w' base v1' v2 xs' ys := by
  obtain ⟨h1, h2, h3⟩ := h
  have hne : v2.ownBlock = none ∨ v2.ownBlock ≠ v1.ownBlock := by
    rcases h3 with h3 | h3
    · rw [h3]
      cases v2.ownBlock <;> simp
    · exact .inr (Ne.symm h3)
  refine ⟨ho, h2.kept hg hne, ?_⟩
  rcases hat with e | e
  · rw [e]
    exact h3
  · refine .inr fun e2 => ?_
    rw [e] at e2
    have := (h2.lt _ e2.symm).2
    omega
theorem Two.swap {w : World} {base : Nat} {v1 v2 : Value} {xs ys : List Ev} (h : Two w base v1 v2 xs ys) : Two w base v2 v1 ys xs := by
  obtain ⟨h1, h2, h3⟩ := h
  refine ⟨h2, h1, ?_⟩
  rcases h3 with h3 | h3
  · rw [h3]
    cases v2.ownBlock <;> simp
  · exact .inr (Ne.symm h3)
theorem Two.alloc {w : World} {base : Nat} {v1 v2 : Value} {xs ys : List Ev} (h : Two w base v1 v2 xs ys) (o : Obj) : Two (w.alloc o) base v1 v2 xs ys := ⟨World.ownsRow.alloc h.1 o, World.ownsRow.alloc h.2.1 o, h.2.2⟩

set_option maxRecDepth 100000 in
set_option maxHeartbeats 4000000 in
theorem rsplit_any (l : List Ev) (hl : l.length ≤ 1000000) (f : Nat) (w : World) (A : Option Addr) (c : Nat) (h : Lies evL w w.heap.size (.slice A l.length c) l) :
    Calls Try.prog 36 #[.slice A l.length c, .int .u64 (f : Int)] w fun e w' => ∃ v1 v2, e = .returned (.tuple #[v1, v2]) ∧ Two w' w.heap.size v1 v2 (outL f l) (stayL f l) ∧ Below w.heap.size w w' := by
  obtain ⟨N, hN⟩ : ∃ N, l.length = N := ⟨_, rfl⟩
  have HL := Lib.hid h
  rw [hN] at HL hl ⊢
  have HN := Lib.hid hN
  have hcap : ∀ j, (outL f (l.take j)).length ≤ 1000000 ∧ (stayL f (l.take j)).length ≤ 1000000 := fun j => by
    have h1 := List.length_filter_le (fun e : Ev => decide (e.1 ≤ f)) (l.take j)
    have h2 := List.length_filter_le (fun e : Ev => decide (f < e.1)) (l.take j)
    have h3 : (l.take j).length ≤ l.length := by rw [List.length_take]; omega
    unfold Bu.outL Bu.stayL
    omega
  have HCAP := Lib.hid hcap
  clear h hN hcap
  go_enter Try.func36, Try.ntmps36
  go_wp2
  go_loopw [6, 7, 8] (fun s6 s7 s8 wr => ∃ j : Nat, s8 = .int .i64 (j : Int) ∧ j ≤ N ∧ Hid (Two wr w.heap.size s6 s7 (outL f (l.take j)) (stayL f (l.take j))) ∧ Hid (Below w.heap.size w wr)) (fun _ _ s8 _ => N - (intOf s8).toNat)
  case atStart => exact ⟨0, rfl, Nat.zero_le _, Lib.hid ⟨World.ownsRow_nil _ _ _ _, World.ownsRow_nil _ _ _ _, .inl rfl⟩, Lib.hid (Below.refl _ _)⟩
  case round =>
    obtain ⟨j, rfl, hj, HT, HB⟩ := hrel
    by_cases hlt : j < N
    · have hjl : j < l.length := by rw [HN.out]; exact hlt
      obtain ⟨b, off, rfl, hb, -, hc⟩ := ev_at (HL.out.below HB.out) (by omega)
      obtain ⟨q0, q1, q2⟩ := hc j hjl
      obtain ⟨hc1, hc2⟩ := HCAP.out j
      have hbb : b < wr.heap.size := Nat.lt_of_lt_of_le hb HB.out.size
      by_cases hle : l[j].1 ≤ f
      · obtain ⟨e1, e2⟩ := out_step hjl hle
        obtain ⟨x, hx⟩ : ∃ x, l[j] = x := ⟨_, rfl⟩
        obtain ⟨O, hO⟩ : ∃ O, outL f (l.take j) = O := ⟨_, rfl⟩
        rw [hx] at q0 q1 q2 hle e1
        rw [hO] at HT hc1 e1
        have E1 := Lib.hid e1
        have E2 := Lib.hid e2
        have HC1 := Lib.hid hc1
        clear hc e1 e2 hc1 hc2 hx hO hjl
        go_wp2_with (at_builtin; refine wpList_app2 41 _ 24 info_event Try.underlying27 rfl (by decide) (by decide) _ rfl _ _ rfl w.heap.size _ _ O [x] _ rfl (World.ownsRow.alloc HT.out.1 _) rfl (lit_ev _ _ _ rfl x) (ev_one _) (by have := HC1.out; simp; omega) (by have := HB.out.size; simp; omega) ?_; intro v' w3 ho3 hg3 hat; have HT3 := Lib.hid ((HT.out.alloc _).left ho3 hg3 hat); have HG := Lib.hid hg3; clear ho3 hg3 hat)
        refine ⟨⟨j + 1, by go_num, hlt, ?_, Lib.hid ((HB.out.alloc HB.out.size _).grown HG.out (by have := HB.out.size; simp; omega) (fun q hq => (HT.out.1.lt q hq).1))⟩, by simp [intOf]; omega⟩
        rw [E1.out, E2.out]
        exact HT3
      · obtain ⟨e1, e2⟩ := stay_step hjl hle
        obtain ⟨x, hx⟩ : ∃ x, l[j] = x := ⟨_, rfl⟩
        obtain ⟨O, hO⟩ : ∃ O, stayL f (l.take j) = O := ⟨_, rfl⟩
        rw [hx] at q0 q1 q2 hle e2
        rw [hO] at HT hc2 e2
        have E1 := Lib.hid e1
        have E2 := Lib.hid e2
        have HC1 := Lib.hid hc2
        clear hc e1 e2 hc1 hc2 hx hO hjl
        go_wp2_with (at_builtin; refine wpList_app2 41 _ 24 info_event Try.underlying27 rfl (by decide) (by decide) _ rfl _ _ rfl w.heap.size _ _ O [x] _ rfl (World.ownsRow.alloc HT.out.2.1 _) rfl (lit_ev _ _ _ rfl x) (ev_one _) (by have := HC1.out; simp; omega) (by have := HB.out.size; simp; omega) ?_; intro v' w3 ho3 hg3 hat; have HT3 := Lib.hid (((HT.out.alloc _).swap.left ho3 hg3 hat).swap); have HG := Lib.hid hg3; clear ho3 hg3 hat)
        refine ⟨⟨j + 1, by go_num, hlt, ?_, Lib.hid ((HB.out.alloc HB.out.size _).grown HG.out (by have := HB.out.size; simp; omega) (fun q hq => (HT.out.2.1.lt q hq).1))⟩, by simp [intOf]; omega⟩
        rw [E1.out, E2.out]
        exact HT3
    · have e : j = N := by omega
      subst e
      have ht : l.take j = l := List.take_of_length_le (by rw [HN.out]; exact Nat.le_refl _)
      rw [ht] at HT
      go_wp2
      refine bodyPost_ret (results_tmp2 (t := 4) (u := 5) rfl _ _ _) rfl ⟨_, _, rfl, HT.out, HB.out⟩
end Go.Proofs.Ythncmjimfkbofaa
end
section
/- The contract of the document's settle. -/
namespace Go.Proofs.Ythncmjimfkbofaa
set_option linter.unusedVariables false
open Go.RowKit Go.Shelf Go.Proofs.Rw Go.Proofs.Lh Go.Proofs.Bu

/-- A row of the call's own that another one's append doesn't reach. -/
theorem Evs.row {w w' : World} {A : Option Addr} {c : Nat} {xs : List Ev} {r : Option Nat} (h : Evs w A c xs) (hg : w.grownBy w' r) (hne : ∀ b, (Value.slice A xs.length c).ownBlock = some b → some b ≠ r) : Evs w' A c xs := by
  refine ⟨h.lies.off hg hne, h.fine, fun b off e => ?_⟩
  obtain ⟨cs, fr, hh⟩ := h.typed b off e
  exact ⟨cs, fr, (hg.block b (lt_of hh) (hne b (by rw [e]; rfl))).trans hh⟩

theorem own_ne {w : World} {base b : Nat} {v : Value} {xs : List Ev} {cs : Array Value} {T : TypeId} {fr : Nat × Nat} (h : OwnE w base v xs) (hb : w.heap[b]? = some (.cells cs T fr)) (hT : T ≠ 41) : v.ownBlock ≠ some b := by
  intro e
  rcases h.2 with ⟨rfl, _⟩ | ⟨g, cap, cur, rfl, _, hg, _⟩
  · cases e
  · have : g = b := by simpa [Value.ownBlock] using e
    rw [this, hb] at hg
    injection hg with hg
    injection hg with _ hg _
    exact hT hg
def lenS : Value → Nat
  | .slice _ n _ => n
  | _ => 0
/-- What stays, by the front, and by the events that are left. -/
theorem settle_round {room late mark front f : Nat} {l : List Ev} (h : Sd l) (h0 : max front (mark - late) ≤ f) (h1 : f ≤ frontB late room mark front l) (hm : room < (stayL f l).length) :
    ∃ (hp : 0 < (stayL f l).length), outL f l ++ outL ((stayL f l)[0]).1 (stayL f l) = outL ((stayL f l)[0]).1 l ∧ stayL ((stayL f l)[0]).1 (stayL f l) = stayL ((stayL f l)[0]).1 l ∧ (stayL ((stayL f l)[0]).1 l).length < (stayL f l).length ∧
      max front (mark - late) ≤ ((stayL f l)[0]).1 ∧ ((stayL f l)[0]).1 ≤ frontB late room mark front l := by
  obtain ⟨e, r, h2, h3, h4, h5, h6, h7⟩ := settle_step h hm
  refine ⟨by omega, ?_⟩
  have e0 : (stayL f l)[0]'(by omega) = e := by simp [h2]
  rw [e0]
  refine ⟨h5, h6, h7, by omega, ?_⟩
  unfold frontB
  omega

set_option maxRecDepth 100000 in
set_option maxHeartbeats 4000000 in
theorem rsettle_any (b : Bf) (hb : Okb b) (w : World) (A : Option Addr) (c : Nat) (hev : Evs w A c b.evs) :
    Calls Try.prog 74 #[bufV b A c] w fun e w' => ∃ A1 c1 A2 c2, e = .returned (.tuple #[bufV (settleB b).1 A1 c1, .slice A2 (settleB b).2.length c2]) ∧ Evs w' A1 c1 (settleB b).1.evs ∧ Evs w' A2 c2 (settleB b).2 ∧ Below w.heap.size w w' ∧ From w A A1 ∧ From w A A2 := by
  obtain ⟨late, room, mark, front, evs⟩ := b
  obtain ⟨hb1, hb2, hb3, hb4, hb5, hsd⟩ := hb
  unfold settleB
  dsimp only at hb1 hb2 hb3 hb4 hb5 hsd hev ⊢
  unfold bufV bval
  dsimp only
  obtain ⟨F, hF⟩ : ∃ F, frontB late room mark front evs = F := ⟨_, rfl⟩
  have hround := fun f h0 h1 hm => settle_round (room := room) (late := late) (mark := mark) (front := front) (f := f) hsd h0 h1 hm
  have hend := fun f h0 h1 hm => settle_end (room := room) (late := late) (mark := mark) (front := front) (f := f) hsd h0 h1 hm
  have hf0 : max front (mark - late) ≤ F := by rw [← hF]; unfold frontB; omega
  rw [hF] at hround hend ⊢
  obtain ⟨N, hN⟩ : ∃ N, evs.length = N := ⟨_, rfl⟩
  rw [hN]
  obtain ⟨f0, hf⟩ : ∃ f, max front (mark - late) = f := ⟨_, rfl⟩
  rw [hf] at hround hend hf0
  have hcap : ∀ f, (outL f evs).length ≤ 100000 ∧ (stayL f evs).length ≤ 100000 := fun f => by
    have h1 := List.length_filter_le (fun e : Ev => decide (e.1 ≤ f)) evs
    have h2 := List.length_filter_le (fun e : Ev => decide (f < e.1)) evs
    unfold Bu.outL Bu.stayL
    omega
  obtain ⟨W0, hW0, hsz, p0, p1, b0⟩ := heap_two w (.cells #[.int .u64 (late : Int), .int .i64 (room : Int), .int .u64 (mark : Int), .int .u64 (front : Int), .slice A N c] 29) (.cells #[.int .u64 0, .int .i64 0, .int .u64 0, .int .u64 0, .slice none 0 0] 29)
  have hsp := fun (l : List Ev) (hl : l.length ≤ 100000) (f : Nat) (W : World) (A' : Option Addr) (c' : Nat) (h : Lies evL W W.heap.size (.slice A' l.length c') l) => rsplit_any l (by omega) f W A' c' h
  have HSP := Lib.hid hsp
  have HRO := Lib.hid hround
  have HEN := Lib.hid hend
  have HCA := Lib.hid hcap
  have HW0 := Lib.hid hW0
  have P0 := Lib.hid p0
  have P1 := Lib.hid p1
  have B0 := Lib.hid b0
  have HEV := Lib.hid hev
  have HN := Lib.hid hN
  have HF0 := Lib.hid hf
  obtain ⟨⟨x0, x1, x2, x3, x4⟩, fz⟩ := box5 p0
  have l0 := lt_of p0
  clear hsp hround hend hcap hW0 p0 p1 b0 hev hN hf hsz hF
  go_enter Try.func74, Try.ntmps74
  go_upto_region 1 with (fail)
  rw [← HW0.out]
  obtain ⟨tp, htp⟩ : ∃ t, (decide (late ≤ mark) && decide (front < mark - late)) = t := ⟨_, rfl⟩
  have HTP := Lib.hid htp
  clear htp
  go_cut [22] from 8 to 22 (fun s22 wx => s22 = .bool tp ∧ W0 = wx)
  case first =>
    by_cases h1 : late ≤ mark
    · have hz1 : (late : Int) ≤ mark := by omega
      by_cases h2 : front < mark - late
      · have hz2 : (front : Int) < (mark : Int) - late := by omega
        go_wp2
        go_meet
        case rel => exact ⟨by rw [← HTP.out]; simp [h1, h2], rfl⟩
      · have hz2 : ¬ (front : Int) < (mark : Int) - late := by omega
        go_wp2
        go_meet
        case rel => exact ⟨by rw [← HTP.out]; simp [h1, h2], rfl⟩
    · have hz1 : ¬ (late : Int) ≤ mark := by omega
      go_wp2
      go_meet
      case rel => exact ⟨by rw [← HTP.out]; simp [h1], rfl⟩
  case rest =>
  obtain ⟨rfl, rfl⟩ := hcut
  go_upto_if 22 with (fail)
  go_cut [23] from 23 to 28 (fun _ wx => wx.heap[w.heap.size]? = some (.cells #[.int .u64 (late : Int), .int .i64 (room : Int), .int .u64 (mark : Int), .int .u64 (f0 : Int), .slice A N c] 29) ∧ wx.heap[w.heap.size + 1]? = some (.cells #[.int .u64 0, .int .i64 0, .int .u64 0, .int .u64 0, .slice none 0 0] 29) ∧ Below w.heap.size w wx)
  case first =>
    cases tp
    · have e : f0 = front := by have := HF0.out; have := HTP.out; simp at this; omega
      go_wp2
      go_meet
      case rel => exact ⟨by rw [e]; exact P0.out, P1.out, B0.out⟩
    · have htp := HTP.out
      simp at htp
      have e : f0 = mark - late := by have := HF0.out; omega
      obtain ⟨htp1, htp2⟩ := htp
      have ez : (mark : Int) - late = (f0 : Int) := by omega
      have hz1 : (late : Int) ≤ mark := by omega
      clear e htp1 htp2
      go_wp2
      go_meet
      case rel =>
        refine ⟨?_, ?_, ?_⟩
        · rw [heap_setCell_same _ _ 3 _ _ _ P0.out]
          first | rfl | (rw [ez]; rfl)
        · rw [Below.heap_setCell _ _ _ _ (by simp)]
          exact P1.out
        · exact B0.out.setCell (p := ⟨w.heap.size, 3, none⟩) (Nat.le_refl _) _
  case rest =>
    obtain ⟨q0, q1, b1⟩ := hcut
    obtain ⟨⟨y0, y1, y2, y3, y4⟩, fy⟩ := box5 q0
    have l1 := lt_of q0
    have ls := (HEV.out.grow b1).lies
    have hs0 := HSP.out evs hb5 f0 _ A c ls
    rw [HN.out] at hs0
    have HS0 := Lib.hid hs0
    have Q0 := Lib.hid q0
    have Q1 := Lib.hid q1
    have B1 := Lib.hid b1
    clear hs0 q0 q1 b1 ls x0 x1 x2 x3 x4 fz HW0 P0 P1 B0
    go_wp2_with (go_at_call 36; (with_reducible refine HS0.out.mono ?_); rintro e w2 ⟨v1, v2, rfl, ht, hb⟩; have HT := Lib.hid (show Two w2 w.heap.size v1 v2 (outL f0 evs) (stayL f0 evs) from ⟨own_le ht.1 B1.out.size, own_le ht.2.1 B1.out.size, ht.2.2⟩); have R0 := Lib.hid ((hb.block _ l1).trans Q0.out); have R1 := Lib.hid ((hb.block _ (lt_of Q1.out)).trans Q1.out); have B2 := Lib.hid (thn B1.out hb); clear ht hb)
    clear HS0 Q0 Q1 B1 y0 y1 y2 y3 y4 fy l1
    go_loopw [4, 5] (fun s4 s5 wr => ∃ f : Nat, f0 ≤ f ∧ f ≤ F ∧ Hid (wr.heap[w.heap.size]? = some (.cells #[.int .u64 (late : Int), .int .i64 (room : Int), .int .u64 (mark : Int), .int .u64 (f : Int), .slice A N c] 29)) ∧ Hid (wr.heap[w.heap.size + 1]? = some (.cells #[.int .u64 0, .int .i64 0, .int .u64 0, .int .u64 0, .slice none 0 0] 29)) ∧ Hid (Two wr w.heap.size s4 s5 (outL f evs) (stayL f evs)) ∧ Hid (Below w.heap.size w wr)) (fun _ s5 _ => lenS s5)
    case atStart => exact ⟨f0, Nat.le_refl _, hf0, R0, R1, HT, B2⟩
    case round =>
      obtain ⟨f, hff, hfF, P0, P1, HT, HB⟩ := hrel
      obtain ⟨A1, c1, rfl, -, -⟩ := own_form HT.out.1
      obtain ⟨A2, c2, rfl, hc2, hc3⟩ := own_form HT.out.2.1
      obtain ⟨⟨y0, y1, y2, y3, y4⟩, fy⟩ := box5 P0.out
      have l1 := lt_of P0.out
      obtain ⟨n2, hn2⟩ : ∃ n, (stayL f evs).length = n := ⟨_, rfl⟩
      obtain ⟨n1, hn1⟩ : ∃ n, (outL f evs).length = n := ⟨_, rfl⟩
      rw [hn1, hn2]
      have hcp := HCA.out f
      have hb2 : n2 ≤ 100000 := by omega
      by_cases hlt : room < n2
      · obtain ⟨hp, r1, r2, r3, r4, r5⟩ := HRO.out f hff hfF (by omega)
        have lies2 : Evs wr A2 c2 (stayL f evs) := Evs.of_own HT.out.2.1
        obtain ⟨g, off, rfl, hgb, -, hcell⟩ := ev_at lies2.lies hp
        obtain ⟨k0, k1, k2⟩ := hcell 0 hp
        obtain ⟨X, hX⟩ : ∃ X, stayL f evs = X := ⟨_, rfl⟩
        obtain ⟨O, hO⟩ : ∃ X, outL f evs = X := ⟨_, rfl⟩
        obtain ⟨x, hx⟩ : ∃ x, ((stayL f evs)[0]'hp).1 = x := ⟨_, rfl⟩
        rw [hx] at r1 r2 r3 r4 r5 k0
        rw [hX] at r1 r2 r3 lies2 HT hn2
        rw [hO] at r1 HT hn1
        rw [hn2] at r3
        rw [hn1, hn2] at HT
        simp only [Nat.zero_mul, Nat.add_zero] at k0
        obtain ⟨W2, hW2⟩ : ∃ W, wr.setCell ⟨w.heap.size, 3, none⟩ (.int .u64 (x : Int)) = W := ⟨_, rfl⟩
        have p0 : W2.heap[w.heap.size]? = some (.cells #[.int .u64 (late : Int), .int .i64 (room : Int), .int .u64 (mark : Int), .int .u64 (x : Int), .slice A N c] 29) := by rw [← hW2, heap_setCell_same _ _ 3 _ _ _ P0.out]; rfl
        have p1 : W2.heap[w.heap.size + 1]? = some (.cells #[.int .u64 0, .int .i64 0, .int .u64 0, .int .u64 0, .slice none 0 0] 29) := by rw [← hW2, Below.heap_setCell _ _ _ _ (by simp)]; exact P1.out
        have b2 : Below w.heap.size w W2 := by rw [← hW2]; exact HB.out.setCell (p := ⟨w.heap.size, 3, none⟩) (Nat.le_refl _) _
        have lies3 : Evs W2 (some ⟨g, off, none⟩) c2 X := by rw [← hW2]; exact lies2.other (grown_set _ _ _ _) P0.out (by decide)
        have o2 : OwnE W2 w.heap.size (.slice A1 n1 c1) O := by rw [← hW2]; exact HT.out.1.kept (grown_set _ _ _ _) (.inr (own_ne HT.out.1 P0.out (by decide)))
        have hs2 := HSP.out X (by omega) x W2 _ c2 lies3.lies
        rw [hn2] at hs2
        obtain ⟨⟨z0, z1, z2, z3, z4⟩, fz⟩ := box5 p0
        have l2 := lt_of p0
        have HS2 := Lib.hid hs2
        have G0 := Lib.hid p0
        have G1 := Lib.hid p1
        have B2 := Lib.hid b2
        have O2 := Lib.hid o2
        have HW2 := Lib.hid hW2
        have R1 := Lib.hid r1
        have R2 := Lib.hid r2
        have R3 := Lib.hid r3
        have cap2 := (HCA.out x).1
        have hOl : O.length + (outL x X).length ≤ 10000000 := by rw [← List.length_append, r1]; omega
        have HOL := Lib.hid hOl
        have hgs : g < wr.heap.size := hgb
        clear hs2 p0 p1 b2 o2 hW2 r1 r2 r3 hcell k1 k2 lies2 lies3 hX hO hx hp hcp hOl cap2
        go_upto_region 6 with (fail)
        rw [HW2.out]
        go_wp2_with (first
          | (go_at_call 36; (with_reducible refine HS2.out.mono ?_); rintro e w3 ⟨v6, v7, rfl, ht, hb⟩; have HT3 := Lib.hid ht; have HB3 := Lib.hid hb; have O3 := Lib.hid (own_below O2.out hb); have L6 := Lib.hid (Lies.of_own (L := evL) ht.1); clear ht hb)
          | (at_builtin; refine wpList_app2 41 _ 24 info_event Try.underlying27 rfl (by decide) (by decide) _ rfl _ _ rfl w.heap.size _ _ O (outL x X) _ rfl O3.out rfl L6.out (ev_one _) HOL.out (by have := B2.out.size; have := HB3.out.size; omega) ?_; intro v' w4 ho4 hg4 hat; have HO4 := Lib.hid ho4; have HG4 := Lib.hid hg4; have HAT := Lib.hid hat; clear ho4 hg4 hat))
        have hg4 : w3.grownBy w4 (Value.slice A1 n1 c1).ownBlock := HG4.out
        have n0 := own_ne O3.out ((HB3.out.block _ l2).trans G0.out) (by decide)
        have n1' := own_ne O3.out ((HB3.out.block _ (lt_of G1.out)).trans G1.out) (by decide)
        have tw : Two w3 w.heap.size (.slice A1 n1 c1) v7 O (stayL x X) := by
          refine ⟨O3.out, own_le HT3.out.2.1 B2.out.size, ?_⟩
          cases hq : (Value.slice A1 n1 c1).ownBlock with
          | none => exact .inl rfl
          | some q =>
            refine .inr fun e => ?_
            have h1 := (O2.out.lt q hq).2
            have h2 := (HT3.out.2.1.lt q e.symm).1
            omega
        have tw4 := tw.left HO4.out HG4.out HAT.out
        rw [R1.out, R2.out] at tw4
        obtain ⟨A7, c7, e7, -, -⟩ := own_form tw4.2.1
        refine ⟨⟨x, r4, r5, Lib.hid ?_, Lib.hid ?_, Lib.hid tw4, Lib.hid ?_⟩, ?_⟩
        · exact (hg4.block _ (Nat.lt_of_lt_of_le l2 HB3.out.size) (Ne.symm n0)).trans ((HB3.out.block _ l2).trans G0.out)
        · exact (hg4.block _ (Nat.lt_of_lt_of_le (lt_of G1.out) HB3.out.size) (Ne.symm n1')).trans ((HB3.out.block _ (lt_of G1.out)).trans G1.out)
        · exact (thn B2.out HB3.out).grown HG4.out (thn B2.out HB3.out).size (fun q hq => (O3.out.lt q hq).1)
        · rw [e7]
          exact R3.out
      · have e := HEN.out f hff hfF (by omega)
        have evo : Evs wr A1 c1 (outL f evs) := Evs.of_own HT.out.1
        have evst : Evs wr A2 c2 (stayL f evs) := Evs.of_own HT.out.2.1
        obtain ⟨W2, hW2⟩ : ∃ W, wr.setCell ⟨w.heap.size, 4, none⟩ (.slice A2 n2 c2) = W := ⟨_, rfl⟩
        have p0 : W2.heap[w.heap.size]? = some (.cells #[.int .u64 (late : Int), .int .i64 (room : Int), .int .u64 (mark : Int), .int .u64 (f : Int), .slice A2 n2 c2] 29) := by rw [← hW2, heap_setCell_same _ _ 4 _ _ _ P0.out]; rfl
        have p1 : W2.heap[w.heap.size + 1]? = some (.cells #[.int .u64 0, .int .i64 0, .int .u64 0, .int .u64 0, .slice none 0 0] 29) := by rw [← hW2, Below.heap_setCell _ _ _ _ (by simp)]; exact P1.out
        have b2 : Below w.heap.size w W2 := by rw [← hW2]; exact HB.out.setCell (p := ⟨w.heap.size, 4, none⟩) (Nat.le_refl _) _
        have evo2 : Evs W2 A1 c1 (outL f evs) := by rw [← hW2]; exact evo.other (grown_set _ _ _ _) P0.out (by decide)
        have evst2 : Evs W2 A2 c2 (stayL f evs) := by rw [← hW2]; exact evst.other (grown_set _ _ _ _) P0.out (by decide)
        obtain ⟨W5, hW5, q5, g5⟩ := fin5 p1 (.int .u64 (late : Int)) (.int .i64 (room : Int)) (.int .u64 (mark : Int)) (.int .u64 (f : Int)) (.slice A2 n2 c2)
        have evo5 := evo2.other g5 p1 (by decide)
        have evst5 := evst2.other g5 p1 (by decide)
        have B5 := Lib.hid (below_row b2 g5 (Nat.le_succ _))
        obtain ⟨⟨z0, z1, z2, z3, z4⟩, -⟩ := box5 p0
        obtain ⟨⟨x0, x1, x2, x3, x4⟩, fx⟩ := box5 p1
        obtain ⟨⟨v0, v1, v2, v3, v4⟩, -⟩ := box5 q5
        have l2 := lt_of p0
        have l3 := lt_of p1
        have HW2 := Lib.hid hW2
        have HW5 := Lib.hid hW5
        have EVO := Lib.hid evo5
        have EVS := Lib.hid evst5
        have HE := Lib.hid e
        have HN1 := Lib.hid hn1
        have HN2 := Lib.hid hn2
        have V := Lib.hid (And.intro v0 (And.intro v1 (And.intro v2 (And.intro v3 v4))))
        clear p0 p1 b2 hW2 hW5 q5 g5 evo evst evo2 evst2 evo5 evst5 e hn1 hn2 hcp v0 v1 v2 v3 v4
        go_upto_region 10 with (fail)
        rw [HW2.out]
        go_wp2
        rw [HW5.out]
        obtain ⟨v0, v1, v2, v3, v4⟩ := V.out
        refine bodyPost_ret (v := .tuple #[bval (late : Int) (room : Int) (mark : Int) (f : Int) (.slice A2 n2 c2), .slice A1 n1 c1]) (by simp [results, Try.results74, go_sem, v0, v1, v2, v3, v4]) rfl ⟨A2, c2, A1, c1, ?_, ?_, ?_, B5.out, own_from HT.out.2.1 (Nat.le_refl _), own_from HT.out.1 (Nat.le_refl _)⟩
        · rw [← HE.out, HN1.out, HN2.out]
        · rw [← HE.out]
          exact EVS.out
        · rw [← HE.out]
          exact EVO.out
end Go.Proofs.Ythncmjimfkbofaa
end
section
/- Rows of buffers: five cells each, and the events that they lead to; buffers as one, in plain mathematics. -/
namespace Go.Proofs.Rw
open Go Go.RowKit Go.Proofs.Lh Go.Proofs.Bu
/-- A buffer, and where its events lie. -/
abbrev Bs := Bf × Option Addr × Nat
def bfL : Lay Bs := ⟨5, fun x => [.int .u64 (x.1.late : Int), .int .i64 (x.1.room : Int), .int .u64 (x.1.mark : Int), .int .u64 (x.1.front : Int), .slice x.2.1 x.1.evs.length x.2.2], fun _ => rfl⟩
theorem bf_one (ys : List Bs) : ∀ y ∈ ys, ∀ u ∈ bfL.enc y, u.oneCell' = true := by
  intro y _ u hu
  simp only [bfL, List.mem_cons, List.not_mem_nil, or_false] at hu
  rcases hu with rfl | rfl | rfl | rfl | rfl <;> rfl
theorem bf_at {w : World} {B : Nat} {A : Option Addr} {len cap : Nat} {xs : List Bs} (h : Lies bfL w B (.slice A len cap) xs) (h0 : 0 < xs.length) : ∃ b off, A = some ⟨b, off, none⟩ ∧ b < B ∧ len = xs.length ∧
    ∀ i (hi : i < xs.length), w.cell? ⟨b, off + i * 5, none⟩ = some (.int .u64 (xs[i].1.late : Int)) ∧ w.cell? ⟨b, off + i * 5 + 1, none⟩ = some (.int .i64 (xs[i].1.room : Int)) ∧ w.cell? ⟨b, off + i * 5 + 2, none⟩ = some (.int .u64 (xs[i].1.mark : Int)) ∧
      w.cell? ⟨b, off + i * 5 + 3, none⟩ = some (.int .u64 (xs[i].1.front : Int)) ∧ w.cell? ⟨b, off + i * 5 + 4, none⟩ = some (.slice xs[i].2.1 xs[i].1.evs.length xs[i].2.2) := by
  obtain ⟨b, off, hA, hb, hl, hc⟩ := h.addr h0
  refine ⟨b, off, hA, hb, hl, fun i hi => ⟨?_, ?_, ?_, ?_, ?_⟩⟩
  · exact hc i hi 0 _ rfl
  · exact hc i hi 1 _ rfl
  · exact hc i hi 2 _ rfl
  · exact hc i hi 3 _ rfl
  · exact hc i hi 4 _ rfl
/-- A slice of buffers, and their events. -/
structure BufsIn (w : World) (B : Nat) (v : Value) (xs : List Bs) : Prop where
  row : Lies bfL w B v xs
  evs : ∀ x ∈ xs, Lies evL w B (.slice x.2.1 x.1.evs.length x.2.2) x.1.evs
theorem BufsIn.below {w w' : World} {B : Nat} {v : Value} {xs : List Bs} (h : BufsIn w B v xs) (hb : Below B w w') : BufsIn w' B v xs := ⟨h.row.below hb, fun x hx => (h.evs x hx).below hb⟩
theorem BufsIn.mono {w : World} {B B' : Nat} {v : Value} {xs : List Bs} (h : BufsIn w B v xs) (hb : B ≤ B') : BufsIn w B' v xs := ⟨h.row.mono hb, fun x hx => (h.evs x hx).mono hb⟩
def evsOf (xs : List Bs) : List Ev := xs.flatMap fun x => x.1.evs
def mkOf (xs : List Bs) : Nat := xs.foldl (fun m x => max m x.1.mark) 0
def frOf (xs : List Bs) : Nat := xs.foldl (fun m x => max m x.1.front) 0
theorem join_take {xs : List Bs} {j : Nat} (hj : j < xs.length) : evsOf (xs.take (j + 1)) = evsOf (xs.take j) ++ xs[j].1.evs ∧ mkOf (xs.take (j + 1)) = max (mkOf (xs.take j)) xs[j].1.mark ∧ frOf (xs.take (j + 1)) = max (frOf (xs.take j)) xs[j].1.front := by
  rw [List.take_succ_eq_append_getElem hj]
  refine ⟨?_, ?_, ?_⟩
  · unfold evsOf
    rw [List.flatMap_append, List.flatMap_cons, List.flatMap_nil, List.append_nil]
  · unfold mkOf
    rw [List.foldl_append]
    rfl
  · unfold frOf
    rw [List.foldl_append]
    rfl
theorem evsOf_le (xs : List Bs) (k : Nat) : (evsOf (xs.take k)).length ≤ (evsOf xs).length := by
  have h : evsOf xs = evsOf (xs.take k) ++ evsOf (xs.drop k) := by
    unfold evsOf
    rw [← List.flatMap_append, List.take_append_drop]
  rw [h, List.length_append]
  omega
theorem mk_le {n : Nat} : ∀ {xs : List Bs}, (∀ x ∈ xs, x.1.mark < n) → 0 < n → mkOf xs < n := by
  intro xs h h0
  have g : ∀ (l : List Bs) (m : Nat), m < n → (∀ x ∈ l, x.1.mark < n) → l.foldl (fun m x => max m x.1.mark) m < n := by
    intro l
    induction l with
    | nil => intro m hm _; exact hm
    | cons x l ih => intro m hm hx; exact ih _ (by have := hx x List.mem_cons_self; dsimp only; omega) fun y hy => hx y (List.mem_cons_of_mem _ hy)
  exact g xs 0 h0 h
theorem fr_le {n : Nat} : ∀ {xs : List Bs}, (∀ x ∈ xs, x.1.front < n) → 0 < n → frOf xs < n := by
  intro xs h h0
  have g : ∀ (l : List Bs) (m : Nat), m < n → (∀ x ∈ l, x.1.front < n) → l.foldl (fun m x => max m x.1.front) m < n := by
    intro l
    induction l with
    | nil => intro m hm _; exact hm
    | cons x l ih => intro m hm hx; exact ih _ (by have := hx x List.mem_cons_self; dsimp only; omega) fun y hy => hx y (List.mem_cons_of_mem _ hy)
  exact g xs 0 h0 h
/-- Buffers as one (their first one leads). -/
def joinB (xs : List Bs) (b : Bf) : Bf := ⟨b.late, b.room, mkOf xs, frOf xs, stayL (frOf xs) (So.gath [] (evsOf xs))⟩
end Go.Proofs.Rw
end
section
/- slices.SortStableFunc on no events at all. -/
namespace Go.Proofs.Ythncmjimfkbofaa
set_option linter.unusedVariables false
open Go.RowKit Go.Shelf Go.Proofs.Rw Go.Proofs.Lh Go.Proofs.Bu Go.Proofs.So

set_option maxHeartbeats 2000000 in
theorem sins_none (p : Option Addr) (cap : Nat) (fv : Value) (w : World) :
    Calls Try.prog 75 #[.slice p 0 cap, .int .i64 0, .int .i64 0, fv] w fun e w' => e = .returned (.tuple #[]) ∧ w' = w := by
  go_enter Try.func75, Try.ntmps75
  go_wp2
  refine wp_loop_rounds 1 ?_
  rw [rounds_succ]
  go_wp2
  exact bodyPost_end (results_none rfl _ _ _) rfl ⟨rfl, rfl⟩
set_option maxHeartbeats 2000000 in
theorem sstb_none (p : Option Addr) (cap : Nat) (fv : Value) (w : World) :
    Calls Try.prog 59 #[.slice p 0 cap, .int .i64 0, fv] w fun e w' => e = .returned (.tuple #[]) ∧ w' = w := by
  have hi := fun W => sins_none p cap fv W
  go_enter Try.func59, Try.ntmps59
  go_wp2
  refine wp_loop_rounds 1 ?_
  rw [rounds_succ]
  go_wp2_with (go_at_call 75; refine (hi _).mono ?_; rintro e w' ⟨rfl, rfl⟩)
  refine wp_loop_rounds 1 ?_
  rw [rounds_succ]
  go_wp2
  exact bodyPost_end (results_none rfl _ _ _) rfl ⟨rfl, rfl⟩
set_option maxHeartbeats 2000000 in
theorem ssort_none (p : Option Addr) (cap : Nat) (fv : Value) (w : World) :
    Calls Try.prog 32 #[.slice p 0 cap, fv] w fun e w' => e = .returned (.tuple #[]) ∧ w' = w := by
  have hp := fun W => sstb_none p cap fv W
  go_enter Try.func32, Try.ntmps32
  go_wp2_with (go_at_call 59; refine (hp _).mono ?_; rintro e w' ⟨rfl, rfl⟩)
  exact bodyPost_end (results_none rfl _ _ _) rfl ⟨rfl, rfl⟩
/-- On events of the call's own, wherever they lie. -/
theorem ssort_own (l : List Ev) (hl : l.length ≤ 1000000) (base : Nat) (w : World) (A : Option Addr) (c : Nat) (h : OwnE w base (.slice A l.length c) l) :
    Calls Try.prog 32 #[.slice A l.length c, .func (.func 33) #[] #[]] w fun e w' => e = .returned (.tuple #[]) ∧ OwnE w' base (.slice A l.length c) (gath [] l) ∧ w.grownBy w' (Value.slice A l.length c).ownBlock := by
  have hgl : (gath [] l).length = l.length := by rw [gath_len]; simp
  rcases h.2 with ⟨e, h0⟩ | ⟨g, cap, cur, e, _⟩
  · injection e with e1 e2 e3
    have hx : l = [] := List.eq_nil_of_length_eq_zero (by simpa using h0)
    subst hx e1 e3
    refine (ssort_none none 0 _ w).mono ?_
    rintro e w' ⟨rfl, rfl⟩
    exact ⟨rfl, h, World.grownBy.refl _ _⟩
  · injection e with e1 e2 e3
    subst e1 e3
    refine (ssort_any l l.length g _ base hl w ⟨rfl, h⟩).mono ?_
    rintro e w' ⟨rfl, h1, h2⟩
    refine ⟨rfl, ?_, h2⟩
    have := h1.own
    exact this
end Go.Proofs.Ythncmjimfkbofaa
end
