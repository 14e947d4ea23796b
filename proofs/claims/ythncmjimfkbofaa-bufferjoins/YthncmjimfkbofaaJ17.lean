/- The contract of buffer.Join. · The contract of the document's Gather. · The contract of the document's Join. -/
import Derived.WalkSpells
import Derived.Test.YthncmjimfkbofaaJ16
section
/- The contract of buffer.Join. -/
namespace Go.Proofs.Ythncmjimfkbofaa
set_option linter.unusedVariables false
open Go.RowKit Go.Shelf Go.Proofs.Rw Go.Proofs.Lh Go.Proofs.Bu Go.Proofs.So

theorem off_sub {A A1 : Option Addr} {n m c c1 b2 : Nat} (h : Sub A1 A) (hf : Fine A1 c1) (hne : (Value.slice A n c).ownBlock ≠ some b2) : ∀ b, (Value.slice A1 m c1).ownBlock = some b → some b ≠ some b2 := by
  intro b hb e
  injection e with e
  subst e
  rcases hf with ⟨rfl, _⟩ | ⟨b', off, rfl⟩
  · cases hb
  · obtain ⟨off', rfl⟩ := h b' off rfl
    exact hne hb
/-- What holds at each round: the joined buffer's variable, its row of events, and where a result will be laid. -/
def JoinR (xs : List Bs) (l r : Int) (b2 b4 base : Nat) (w : World) (j : Nat) (wr : World) : Prop :=
  ∃ A c, wr.heap[b4]? = some (.cells #[.int .u64 l, .int .i64 r, .int .u64 (mkOf (xs.take j) : Int), .int .u64 (frOf (xs.take j) : Int), .slice A (evsOf (xs.take j)).length c] 33) ∧ OwnE wr base (.slice A (evsOf (xs.take j)).length c) (evsOf (xs.take j)) ∧
    wr.heap[b2]? = some (.cells #[.int .u64 0, .int .i64 0, .int .u64 0, .int .u64 0, .slice none 0 0] 33) ∧ Below base w wr

set_option maxRecDepth 100000 in
set_option maxHeartbeats 8000000 in
theorem bjoin_any (xs : List Bs) (hx : 0 < xs.length) (hlen : xs.length ≤ 1000) (hm : ∀ x ∈ xs, x.1.mark < 18446744073709551616) (hf : ∀ x ∈ xs, x.1.front < 18446744073709551616) (hev : (evsOf xs).length ≤ 100000) (w : World) (A : Option Addr) (n c : Nat) (hn : xs.length = n) (h : BufsIn w w.heap.size (.slice A n c) xs) :
    Calls Try.prog 13 #[.slice A n c] w fun e w' => ∃ A1 c1 A2 c2, e = .returned (.tuple #[bufV (joinB xs (xs[0]'hx).1) A1 c1, .slice A2 (outL (frOf xs) (gath [] (evsOf xs))).length c2]) ∧
      Lies evL w' w'.heap.size (.slice A1 (stayL (frOf xs) (gath [] (evsOf xs))).length c1) (stayL (frOf xs) (gath [] (evsOf xs))) ∧ Lies evL w' w'.heap.size (.slice A2 (outL (frOf xs) (gath [] (evsOf xs))).length c2) (outL (frOf xs) (gath [] (evsOf xs))) ∧ Below w.heap.size w w' := by
  have hrow := h.row
  obtain ⟨b, off, rfl, hb, -, hc⟩ := bf_at hrow hx
  obtain ⟨q0, q1, -, -, -⟩ := hc 0 hx
  obtain ⟨x0, hx0⟩ : ∃ x, (xs[0]'hx) = x := ⟨_, rfl⟩
  rw [hx0] at q0 q1 ⊢
  rw [Nat.zero_mul, Nat.add_zero] at q0 q1
  have HX := Lib.hid h
  have HN := Lib.hid hn
  have HXX := Lib.hid hx
  have HEV := Lib.hid hev
  have HMM := Lib.hid hm
  have HFF := Lib.hid hf
  clear hm hf hev
  have hn0 : 0 < n := by omega
  have hnk : n ≤ 1000 := by omega
  have hnz : ¬ ((n : Int) = 0) := by omega
  have hnb : ((n : Int) == 0) = false := by simpa using hnz
  obtain ⟨W0, hW0⟩ : ∃ W, w.alloc (.cells #[.int .u64 0, .int .i64 0, .int .u64 0, .int .u64 0, .slice none 0 0] 33) = W := ⟨_, rfl⟩
  have p0 : W0.heap[w.heap.size]? = some (.cells #[.int .u64 0, .int .i64 0, .int .u64 0, .int .u64 0, .slice none 0 0] 33) := by rw [← hW0]; exact heap_alloc_new w _
  have b0 : Below w.heap.size w W0 := by rw [← hW0]; exact (Below.refl _ w).alloc (Nat.le_refl _) _
  have s0 : W0.heap.size = w.heap.size + 1 := by rw [← hW0]; simp
  have q0' := (b0.cell (p := ⟨b, off, none⟩) hb).trans q0
  have q1' := (b0.cell (p := ⟨b, off + 1, none⟩) hb).trans q1
  have HW0 := Lib.hid hW0
  have P0 := Lib.hid p0
  have B0 := Lib.hid b0
  have hbW : b < W0.heap.size := by omega
  clear h hrow hc q0 q1 hW0 p0 b0 hx0 hn s0
  go_enter Try.func13, Try.ntmps13
  go_upto_region 3 with (fail)
  rw [HW0.out]
  go_region
  obtain ⟨⟨l0, r0, m0, f0, ev0⟩, A0, c0⟩ := x0
  dsimp only at q0' q1' ⊢
  obtain ⟨W1, hW1⟩ : ∃ W, (W0.alloc (.cells #[.int .u64 (l0 : Int), .int .i64 (r0 : Int), .int .u64 0, .int .u64 0, .slice none 0 0] 33)).drew = W := ⟨_, rfl⟩
  rw [hW1]
  have p4 : W1.heap[W0.heap.size]? = some (.cells #[.int .u64 (l0 : Int), .int .i64 (r0 : Int), .int .u64 0, .int .u64 0, .slice none 0 0] 33) := by rw [← hW1]; exact heap_alloc_new W0 _
  have b1 : Below W0.heap.size W0 W1 := by rw [← hW1]; exact ((Below.refl _ W0).alloc (Nat.le_refl _) _).drew
  have p2 := (b1.block _ (lt_of P0.out)).trans P0.out
  have b01 := thn B0.out b1
  obtain ⟨b4, hb4⟩ : ∃ b, W0.heap.size = b := ⟨_, rfl⟩
  obtain ⟨b2, hb2⟩ : ∃ b, w.heap.size = b := ⟨_, rfl⟩
  have hb24 : b2 < b4 := by have := lt_of P0.out; omega
  have hb4w : w.heap.size ≤ b4 := by omega
  rw [hb4] at p4 ⊢
  rw [hb2] at p2 ⊢
  have J0 : JoinR xs (l0 : Int) (r0 : Int) b2 b4 w.heap.size w 0 W1 := ⟨none, 0, p4, World.ownsRow_nil _ _ _ _, p2, b01⟩
  have HJ0 := Lib.hid J0
  clear J0 p4 p2 b01 b1 hW1 q0' q1' HW0 P0 B0 hbW hb4
  go_wp2
  go_loopw [22] (fun s22 wr => ∃ j : Nat, s22 = .int .i64 (j : Int) ∧ j ≤ n ∧ Hid (JoinR xs (l0 : Int) (r0 : Int) b2 b4 w.heap.size w j wr)) (fun s22 _ => n - (intOf s22).toNat)
  case atStart => exact ⟨0, rfl, Nat.zero_le _, HJ0⟩
  case round =>
    obtain ⟨j, rfl, hj, HJ⟩ := hrel
    clear HJ0
    by_cases hlt : j < n
    · have hjl : j < xs.length := by rw [HN.out]; exact hlt
      obtain ⟨Aj, cj, p4, hown, p2, hbel⟩ := HJ.out
      obtain ⟨b', off', e, hb', -, hc⟩ := bf_at (HX.out.below hbel).row HXX.out
      cases e
      obtain ⟨q0, q1, q2, q3, q4⟩ := hc j hjl
      obtain ⟨e1, e2, e3⟩ := join_take hjl
      have hlx := (HX.out.below hbel).evs _ (List.getElem_mem hjl)
      have hle := evsOf_le xs (j + 1)
      rw [e1, List.length_append] at hle
      obtain ⟨x, hx⟩ : ∃ x, xs[j] = x := ⟨_, rfl⟩
      rw [hx] at q0 q1 q2 q3 q4 e1 e2 e3 hlx hle
      obtain ⟨⟨xl, xr, xm, xf, xe⟩, xA, xc⟩ := x
      dsimp only at q0 q1 q2 q3 q4 e1 e2 e3 hlx hle
      obtain ⟨NX, hNX⟩ : ∃ N, xe.length = N := ⟨_, rfl⟩
      obtain ⟨m, hm⟩ : ∃ m, mkOf (xs.take j) = m := ⟨_, rfl⟩
      obtain ⟨f, hf⟩ : ∃ m, frOf (xs.take j) = m := ⟨_, rfl⟩
      obtain ⟨E, hE⟩ : ∃ m, evsOf (xs.take j) = m := ⟨_, rfl⟩
      obtain ⟨NE, hNE⟩ : ∃ m, E.length = m := ⟨_, rfl⟩
      rw [hm, hf, hE, hNE] at p4
      rw [hE, hNE] at hown
      rw [hE] at e1 hle
      rw [hm] at e2
      rw [hf] at e3
      rw [hNX] at q4 hle
      rw [hNE] at hle
      have hbb : b < wr.heap.size := Nat.lt_of_lt_of_le hb hbel.size
      -- the round's variable
      obtain ⟨W1, hW1⟩ : ∃ W, wr.alloc (.cells #[.int .u64 (xl : Int), .int .i64 (xr : Int), .int .u64 (xm : Int), .int .u64 (xf : Int), .slice xA NX xc] 33) = W := ⟨_, rfl⟩
      have p6 : W1.heap[wr.heap.size]? = some (.cells #[.int .u64 (xl : Int), .int .i64 (xr : Int), .int .u64 (xm : Int), .int .u64 (xf : Int), .slice xA NX xc] 33) := by rw [← hW1]; exact heap_alloc_new wr _
      have b1 : Below wr.heap.size wr W1 := by rw [← hW1]; exact (Below.refl _ wr).alloc (Nat.le_refl _) _
      have p4' := (b1.block _ (lt_of p4)).trans p4
      obtain ⟨b6, hb6⟩ : ∃ b, wr.heap.size = b := ⟨_, rfl⟩
      have hb46 : b4 < b6 := by have := lt_of p4; omega
      obtain ⟨⟨y0, y1, y2, y3, y4⟩, fy⟩ := box5 p4'
      rw [hb6] at p6
      obtain ⟨⟨z0, z1, z2, z3, z4⟩, -⟩ := box5 p6
      have ly := lt_of p4'
      have lz := lt_of p6
      obtain ⟨M, hM⟩ : ∃ M, max m xm = M := ⟨_, rfl⟩
      obtain ⟨F, hF⟩ : ∃ M, max f xf = M := ⟨_, rfl⟩
      rw [hM] at e2
      rw [hF] at e3
      -- greatest, of marks
      have g1 := greatest_any [m, xm] (by simp) (W1.alloc (.cells #[.int .u64 (m : Int), .int .u64 (xm : Int)] 22)) (W1.heap.size + 1) (by simp) (some ⟨W1.heap.size, 0, none⟩) 2 (lit_two 22 W1 m xm)
      rw [show gre [m, xm] = M by simp [gre, hM], show ([m, xm] : List Nat).length = 2 from rfl] at g1
      obtain ⟨W2, hW2⟩ : ∃ W, W1.setCell ⟨b4, 2, none⟩ (.int .u64 (M : Int)) = W := ⟨_, rfl⟩
      have p42 : W2.heap[b4]? = some (.cells #[.int .u64 (l0 : Int), .int .i64 (r0 : Int), .int .u64 (M : Int), .int .u64 (f : Int), .slice Aj NE cj] 33) := by rw [← hW2, heap_setCell_same _ _ 2 _ _ _ p4']; rfl
      have p62 : W2.heap[b6]? = some (.cells #[.int .u64 (xl : Int), .int .i64 (xr : Int), .int .u64 (xm : Int), .int .u64 (xf : Int), .slice xA NX xc] 33) := by rw [← hW2, Below.heap_setCell _ _ _ _ (by simp; omega)]; exact p6
      have g12 : W1.grownBy W2 (some b4) := by rw [← hW2]; exact grown_set _ _ _ _
      obtain ⟨W3, hW3⟩ : ∃ W, W2.alloc (.cells #[.int .u64 (m : Int), .int .u64 (xm : Int)] 22) = W := ⟨_, rfl⟩
      have b3' : Below W2.heap.size W2 W3 := by rw [← hW3]; exact (Below.refl _ W2).alloc (Nat.le_refl _) _
      have p43 := (b3'.block _ (lt_of p42)).trans p42
      have p63 := (b3'.block _ (lt_of p62)).trans p62
      -- greatest, of fronts
      have g2 := greatest_any [f, xf] (by simp) (W3.alloc (.cells #[.int .u64 (f : Int), .int .u64 (xf : Int)] 22)) (W3.heap.size + 1) (by simp) (some ⟨W3.heap.size, 0, none⟩) 2 (lit_two 22 W3 f xf)
      rw [show gre [f, xf] = F by simp [gre, hF], show ([f, xf] : List Nat).length = 2 from rfl] at g2
      obtain ⟨W4, hW4⟩ : ∃ W, W3.setCell ⟨b4, 3, none⟩ (.int .u64 (F : Int)) = W := ⟨_, rfl⟩
      have p44 : W4.heap[b4]? = some (.cells #[.int .u64 (l0 : Int), .int .i64 (r0 : Int), .int .u64 (M : Int), .int .u64 (F : Int), .slice Aj NE cj] 33) := by rw [← hW4, heap_setCell_same _ _ 3 _ _ _ p43]; rfl
      have p64 : W4.heap[b6]? = some (.cells #[.int .u64 (xl : Int), .int .i64 (xr : Int), .int .u64 (xm : Int), .int .u64 (xf : Int), .slice xA NX xc] 33) := by rw [← hW4, Below.heap_setCell _ _ _ _ (by simp; omega)]; exact p63
      have g34 : W3.grownBy W4 (some b4) := by rw [← hW4]; exact grown_set _ _ _ _
      obtain ⟨W5, hW5⟩ : ∃ W, W4.alloc (.cells #[.int .u64 (f : Int), .int .u64 (xf : Int)] 22) = W := ⟨_, rfl⟩
      have b5' : Below W4.heap.size W4 W5 := by rw [← hW5]; exact (Below.refl _ W4).alloc (Nat.le_refl _) _
      have p45 := (b5'.block _ (lt_of p44)).trans p44
      have p65 := (b5'.block _ (lt_of p64)).trans p64
      -- all that turned so far is new, or that variable
      have gall : wr.grownBy W5 (some b4) := grown_trans (grown_trans (grown_trans (grown_bel b1) g12) (grown_bel b3')) (grown_trans g34 (grown_bel b5'))
      have hown5 : OwnE W5 w.heap.size (.slice Aj NE cj) E := World.ownsRow.kept hown gall (.inr (own_ne hown p4 (by decide)))
      have p25 := (gall.block b2 (lt_of p2) (by simp; omega)).trans p2
      have hbel5 : Below w.heap.size w W5 := below_row hbel gall hb4w
      have hlx5 := (HX.out.below hbel5).evs _ (List.getElem_mem hjl)
      rw [hx] at hlx5
      dsimp only at hlx5
      rw [hNX] at hlx5
      obtain ⟨⟨u0, u1, u2, u3, u4⟩, fu⟩ := box5 p43
      obtain ⟨⟨v0, v1, v2, v3, v4⟩, -⟩ := box5 p63
      obtain ⟨⟨t0, t1, t2, t3, t4⟩, ft⟩ := box5 p45
      obtain ⟨⟨s0, s1, s2, s3, s4⟩, -⟩ := box5 p65
      have lu := lt_of p43
      have lv := lt_of p63
      have lt4 := lt_of p45
      have ls := lt_of p65
      have hlb : E.length + xe.length ≤ 10000000 := by have := HEV.out; omega
      have G1 := Lib.hid g1
      have G2 := Lib.hid g2
      have HW1 := Lib.hid hW1
      have HW2 := Lib.hid hW2
      have HW3 := Lib.hid hW3
      have HW4 := Lib.hid hW4
      have HW5 := Lib.hid hW5
      have P45 := Lib.hid p45
      have P25 := Lib.hid p25
      have O5 := Lib.hid hown5
      have B5 := Lib.hid hbel5
      have LX := Lib.hid hlx5
      have E1 := Lib.hid e1
      have E2 := Lib.hid e2
      have E3 := Lib.hid e3
      have HLB := Lib.hid hlb
      have HNX := Lib.hid hNX
      clear g1 g2 hW1 hW2 hW3 hW4 hW5 p45 p25 hown5 hbel5 hlx5 e1 e2 e3 hlb hc hx p4 p2 hown hbel p6 p4' b1 p42 p62 g12 b3' p43 p63 p44 p64 g34 b5' p65 gall hlx hle HJ hm hf hE hNE hM hF hNX hjl
      go_upto_region 7 with (fail)
      rw [HW1.out]
      clear q0 q1 q2 q3 q4
      go_upto_region 8 with (go_at_call 31; (with_reducible refine G1.out.mono ?_); rintro r w2 ⟨rfl, rfl⟩)
      rw [HW2.out, HW3.out]
      clear y0 y1 y2 y3 y4 z0 z1 z2 z3 z4 fy
      go_upto_region 9 with (go_at_call 31; (with_reducible refine G2.out.mono ?_); rintro r w2 ⟨rfl, rfl⟩)
      rw [HW4.out, HW5.out]
      clear u0 u1 u2 u3 u4 v0 v1 v2 v3 v4 fu
      go_upto_region 10 with (at_builtin; refine wpList_app2 41 _ 24 info_event Try.underlying27 rfl (by decide) (by decide) _ rfl _ _ rfl w.heap.size _ _ E xe _ rfl O5.out rfl LX.out (ev_one _) HLB.out B5.out.size ?_; intro v' w6 ho6 hg6 hat; obtain ⟨A6, c6, e6, -, -⟩ := own_form ho6; subst e6; have p46 := (hg6.block b4 (lt_of P45.out) (Ne.symm (own_ne O5.out P45.out (by decide)))).trans P45.out; have p26 := (hg6.block b2 (lt_of P25.out) (Ne.symm (own_ne O5.out P25.out (by decide)))).trans P25.out; obtain ⟨⟨x0, x1, x2, x3, x4⟩, fx⟩ := box5 p46; have lx := lt_of p46; have b6' := B5.out.grown hg6 B5.out.size (fun q hq => (O5.out.lt q hq).1); have O6 := Lib.hid ho6; have P46 := Lib.hid p46; have P26 := Lib.hid p26; have B6 := Lib.hid b6'; clear ho6 hg6 hat p46 p26 b6')
      go_wp2
      have ho6 := O6.out
      have hJ : JoinR xs (l0 : Int) (r0 : Int) b2 b4 w.heap.size w (j + 1) (w6.setCell ⟨b4, 4, none⟩ (.slice A6 (E ++ xe).length c6)) := by
        refine ⟨A6, c6, ?_, ?_, ?_, ?_⟩
        · rw [heap_setCell_same _ _ 4 _ _ _ P46.out, E1.out, E2.out, E3.out]
          rfl
        · rw [E1.out]
          exact World.ownsRow.kept ho6 (grown_set _ _ _ _) (.inr (own_ne ho6 P46.out (by decide)))
        · rw [Below.heap_setCell _ _ _ _ (by simp; omega)]
          exact P26.out
        · exact B6.out.setCell (p := ⟨b4, 4, none⟩) hb4w _
      rw [List.length_append] at hJ
      go_roundw
      case rel => exact ⟨j + 1, by go_num, hlt, Lib.hid hJ⟩
      case measure => simp [intOf]; omega
    · have e : j = n := by omega
      subst e
      have ht : xs.take xs.length = xs := List.take_length
      rw [HN.out] at ht
      obtain ⟨A4, c4, p4, hown, p2, hbel⟩ := HJ.out
      rw [ht] at p4 hown
      obtain ⟨E, hE⟩ : ∃ m, evsOf xs = m := ⟨_, rfl⟩
      obtain ⟨M, hM⟩ : ∃ m, mkOf xs = m := ⟨_, rfl⟩
      obtain ⟨F, hF⟩ : ∃ m, frOf xs = m := ⟨_, rfl⟩
      rw [hE, hM, hF] at p4
      rw [hE] at hown
      have hEl : E.length ≤ 100000 := by have := HEV.out; rw [hE] at this; exact this
      have hso := ssort_own E (by omega) w.heap.size wr A4 c4 hown
      have hgl : (gath [] E).length = E.length := by rw [gath_len]; simp
      have hgs : Sd (gath [] E) := gath_sd E [] List.Pairwise.nil
      obtain ⟨G, hG⟩ : ∃ m, gath [] E = m := ⟨_, rfl⟩
      rw [hG] at hso hgl hgs
      obtain ⟨NG, hNG⟩ : ∃ m, E.length = m := ⟨_, rfl⟩
      rw [hNG] at p4 hso hgl hEl
      have hcut := fun (W : World) (A : Option Addr) (h : Lies evL W W.heap.size (.slice A G.length c4) G) (hA : Fine A c4) => cutE_any ⟨l0, r0, M, F, G⟩ hgs (by dsimp only; omega) W A c4 W.heap.size (Nat.le_refl _) h hA
      unfold bufV bval at hcut
      dsimp only at hcut
      obtain ⟨T, hT⟩ : ∃ T, stayL F G = T := ⟨_, rfl⟩
      obtain ⟨O, hO⟩ : ∃ T, outL F G = T := ⟨_, rfl⟩
      obtain ⟨NT, hNT⟩ : ∃ T', T.length = T' := ⟨_, rfl⟩
      obtain ⟨NO, hNO⟩ : ∃ T', O.length = T' := ⟨_, rfl⟩
      rw [hgl, hT, hO, hNT, hNO] at hcut
      have hfin : ∀ (Wz : World) (A1 A2 : Option Addr) (c1 c2 : Nat) (v : Value), v = .tuple #[bval (l0 : Int) (r0 : Int) (M : Int) (F : Int) (.slice A1 NT c1), .slice A2 NO c2] → Lies evL Wz Wz.heap.size (.slice A1 NT c1) T → Lies evL Wz Wz.heap.size (.slice A2 NO c2) O → Below w.heap.size w Wz →
          ∃ B1 d1 B2 d2, Ending.returned v = .returned (.tuple #[bufV (joinB xs ⟨l0, r0, m0, f0, ev0⟩) B1 d1, .slice B2 (outL (frOf xs) (gath [] (evsOf xs))).length d2]) ∧ Lies evL Wz Wz.heap.size (.slice B1 (stayL (frOf xs) (gath [] (evsOf xs))).length d1) (stayL (frOf xs) (gath [] (evsOf xs))) ∧
            Lies evL Wz Wz.heap.size (.slice B2 (outL (frOf xs) (gath [] (evsOf xs))).length d2) (outL (frOf xs) (gath [] (evsOf xs))) ∧ Below w.heap.size w Wz := by
        rintro Wz A1 A2 c1 c2 v rfl h1 h2 h3
        refine ⟨A1, c1, A2, c2, ?_, ?_, ?_, h3⟩
        · unfold bufV bval joinB
          dsimp only
          rw [hE, hM, hF, hG, hT, hO, hNT, hNO]
        · rw [hE, hF, hG, hT, hNT]
          exact h1
        · rw [hE, hF, hG, hO, hNO]
          exact h2
      obtain ⟨⟨y0, y1, y2, y3, y4⟩, fy⟩ := box5 p4
      have ly := lt_of p4
      have hne4 : (Value.slice A4 NG c4).ownBlock ≠ some b4 := by rw [← hNG]; exact own_ne hown p4 (by decide)
      have hne2 : (Value.slice A4 NG c4).ownBlock ≠ some b2 := by rw [← hNG]; exact own_ne hown p2 (by decide)
      have hob : ∀ q, (Value.slice A4 NG c4).ownBlock = some q → w.heap.size ≤ q := fun q hq => by rw [← hNG] at hq; exact (hown.lt q hq).1
      have HNE4 := Lib.hid hne4
      have HNE2 := Lib.hid hne2
      have HOB := Lib.hid hob
      have HSO := Lib.hid hso
      have HCUT := Lib.hid hcut
      have HFIN := Lib.hid hfin
      have P4 := Lib.hid p4
      have P2 := Lib.hid p2
      have BW := Lib.hid hbel
      have HGL := Lib.hid hgl
      clear hso hcut hfin hne4 hne2 hob p4 p2 hown hbel hE hM hF hG hT hO hNT hNO hgl hgs ht HJ
      go_upto_region 12 with (go_at_call 32; (with_reducible refine HSO.out.mono ?_); rintro e w7 ⟨rfl, ho7, hg7⟩; have p47 := (hg7.block b4 (lt_of P4.out) (Ne.symm HNE4.out)).trans P4.out; have p27 := (hg7.block b2 (lt_of P2.out) (Ne.symm HNE2.out)).trans P2.out; obtain ⟨⟨x0, x1, x2, x3, x4⟩, fx⟩ := box5 p47; have lx := lt_of p47; have b7 := BW.out.grown hg7 BW.out.size HOB.out; have O7 := Lib.hid ho7; have P27 := Lib.hid p27; have B7 := Lib.hid b7; clear ho7 hg7 p47 p27 b7)
      clear y0 y1 y2 y3 y4 fy
      have ho7 := O7.out
      unfold OwnE at ho7
      rw [HGL.out] at ho7
      have hc7 := HCUT.out w7 A4 (Lies.of_own O7.out) (own_fine ho7)
      have HC7 := Lib.hid hc7
      clear ho7 hc7 HCUT
      go_upto_region 13 with (go_at_call 35; (with_reducible refine HC7.out.mono ?_); rintro e w8 ⟨A1, c1, A2, c2, rfl, h1, h2, h3, h4, h5, h6, h7⟩; have p28 := (h5.block b2 (lt_of P27.out)).trans P27.out; obtain ⟨⟨x0, x1, x2, x3, x4⟩, fx⟩ := box5 p28; have lx := lt_of p28; obtain ⟨W9, hW9, q9, g9⟩ := fin5 p28 (.int .u64 (l0 : Int)) (.int .i64 (r0 : Int)) (.int .u64 (M : Int)) (.int .u64 (F : Int)) (.slice A1 NT c1); obtain ⟨⟨y0, y1, y2, y3, y4⟩, -⟩ := box5 q9; have HW9 := Lib.hid hW9; have Y := Lib.hid (And.intro y0 (And.intro y1 (And.intro y2 (And.intro y3 y4)))); have L1 := Lib.hid (Lies.off2 (h1.mono h5.size) g9 (fun _ => off_sub h6 h3 HNE2.out)); have L2 := Lib.hid (Lies.off2 (h2.mono h5.size) g9 (fun _ => off_sub h7 h4 HNE2.out)); have B9 := Lib.hid (below_row (thn B7.out h5) g9 (by omega)); clear h1 h2 h3 h4 h5 h6 h7 p28 hW9 q9 g9 y0 y1 y2 y3 y4)
      go_wp2
      rw [HW9.out]
      obtain ⟨y0, y1, y2, y3, y4⟩ := Y.out
      have hf := HFIN.out W9 A1 A2 c1 c2 _ rfl L1.out L2.out B9.out
      rw [hb2] at hf
      exact bodyPost_ret (v := .tuple #[bval (l0 : Int) (r0 : Int) (M : Int) (F : Int) (.slice A1 NT c1), .slice A2 NO c2]) (by simp [results, Try.results13, go_sem, y0, y1, y2, y3, y4]) rfl hf
end Go.Proofs.Ythncmjimfkbofaa
end
section
/- The contract of the document's Gather. -/
namespace Go.Proofs.So
open Go.Proofs.Lh Go.Proofs.Bu
theorem gath_app (l a b : List Ev) : gath l (a ++ b) = gath (gath l a) b := by unfold gath; rw [List.foldl_append]
theorem gath_step {l es : List Ev} {k : Nat} (hk : k < es.length) : gath l (es.take (k + 1)) = insL es[k] (gath l (es.take k)) := by
  rw [List.take_succ_eq_append_getElem hk, gath_app]
  rfl
end Go.Proofs.So
namespace Go.Proofs.Ythncmjimfkbofaa
set_option linter.unusedVariables false
open Go.RowKit Go.Shelf Go.Proofs.Rw Go.Proofs.Lh Go.Proofs.Bu Go.Proofs.So

set_option maxRecDepth 100000 in
set_option maxHeartbeats 8000000 in
theorem rgather_any (xs : List Bs) (hlen : xs.length ≤ 1000) (hev : (evsOf xs).length ≤ 100000) (w : World) (A : Option Addr) (n c : Nat) (hn : xs.length = n) (h : BufsIn w w.heap.size (.slice A n c) xs) :
    Calls Try.prog 37 #[.slice A n c] w fun e w' => ∃ A1 c1, e = .returned (.slice A1 (gath [] (evsOf xs)).length c1) ∧ OwnE w' w.heap.size (.slice A1 (gath [] (evsOf xs)).length c1) (gath [] (evsOf xs)) ∧ Below w.heap.size w w' := by
  have HX := Lib.hid h
  have HN := Lib.hid hn
  have HEV := Lib.hid hev
  have hnn : n ≤ 1000 := by omega
  clear h hn hev hlen
  go_enter Try.func37, Try.ntmps37
  go_wp2
  go_loopw [3, 4] (fun s3 s4 wr => ∃ i : Nat, s4 = .int .i64 (i : Int) ∧ i ≤ n ∧ Hid (OwnE wr w.heap.size s3 (gath [] (evsOf (xs.take i)))) ∧ Hid (Below w.heap.size w wr)) (fun _ s4 _ => n - (intOf s4).toNat)
  case atStart => exact ⟨0, rfl, Nat.zero_le _, Lib.hid (World.ownsRow_nil _ _ _ _), Lib.hid (Below.refl _ _)⟩
  case round =>
    obtain ⟨i, rfl, hi, HO, HB⟩ := hrel
    by_cases hlt : i < n
    · have hil : i < xs.length := by rw [HN.out]; exact hlt
      have hxin := HX.out.below HB.out
      obtain ⟨b, off, rfl, hb, -, hc⟩ := bf_at hxin.row (by omega)
      obtain ⟨-, -, -, -, q4⟩ := hc i hil
      obtain ⟨e1, -, -⟩ := join_take hil
      have hle := evsOf_le xs (i + 1)
      rw [e1, List.length_append] at hle
      have hlx := hxin.evs _ (List.getElem_mem hil)
      obtain ⟨x, hx⟩ : ∃ x, xs[i] = x := ⟨_, rfl⟩
      rw [hx] at q4 e1 hle hlx
      obtain ⟨⟨xl, xr, xm, xf, xe⟩, xA, xc⟩ := x
      dsimp only at q4 e1 hle hlx
      obtain ⟨NX, hNX⟩ : ∃ N, xe.length = N := ⟨_, rfl⟩
      rw [hNX] at q4 hle
      obtain ⟨E, hE⟩ : ∃ E, evsOf (xs.take i) = E := ⟨_, rfl⟩
      rw [hE] at HO e1 hle
      have hbb : b < wr.heap.size := Nat.lt_of_lt_of_le hb HB.out.size
      have Q4 := Lib.hid q4
      have E1 := Lib.hid e1
      have HLX := Lib.hid (show ∀ W, Below w.heap.size w W → Lies evL W w.heap.size (.slice xA xe.length xc) xe from fun W hW => by
        have := (HX.out.below hW).evs _ (List.getElem_mem hil)
        rw [hx] at this
        exact this)
      have HQ4 := Lib.hid (show ∀ W, Below w.heap.size w W → W.cell? ⟨b, off + i * 5 + 4, none⟩ = some (.slice xA NX xc) from fun W hW => by
        have h1 := bf_at (HX.out.below hW).row (by omega)
        obtain ⟨b2, o2, e2, -, -, h2⟩ := h1
        cases e2
        have := (h2 i hil).2.2.2.2
        rw [hx] at this
        dsimp only at this
        rw [hNX] at this
        exact this)
      have HNX := Lib.hid hNX
      have HLE := Lib.hid (show E.length + NX ≤ 100000 by have := HEV.out; omega)
      have hNXb : NX ≤ 100000 := by have := HEV.out; omega
      clear hc hx hxin hNX hE q4 e1 hlx hle hil
      obtain ⟨G, hG⟩ : ∃ G, gath [] E = G := ⟨_, rfl⟩
      have hGl : G.length = E.length := by rw [← hG, gath_len]; simp
      have HG := Lib.hid hG
      rw [hG] at HO
      clear hG
      go_upto_region 6 with (fail)
      go_loopw [3, 5] (fun s3 s5 wr => ∃ k : Nat, s5 = .int .i64 (k : Int) ∧ k ≤ NX ∧ Hid (OwnE wr w.heap.size s3 (gath G (xe.take k))) ∧ Hid (Below w.heap.size w wr)) (fun _ s5 _ => NX - (intOf s5).toNat)
      case atStart => exact ⟨0, rfl, Nat.zero_le _, HO, HB⟩
      case round =>
        obtain ⟨k, rfl, hk, HOK, HBK⟩ := hrel
        have q4 := HQ4.out _ HBK.out
        have hbk : b < wr.heap.size := Nat.lt_of_lt_of_le hb HBK.out.size
        by_cases hlk : k < NX
        · have hkl : k < xe.length := by rw [HNX.out]; exact hlk
          obtain ⟨b2, o2, e2, hb2, -, hc2⟩ := ev_at (HLX.out _ HBK.out) (by omega)
          subst e2
          obtain ⟨r0, r1, r2⟩ := hc2 k hkl
          have hb2k : b2 < wr.heap.size := Nat.lt_of_lt_of_le hb2 HBK.out.size
          have hst := gath_step (l := G) hkl
          have hLl := gath_len (xe.take k) G
          rw [List.length_take] at hLl
          obtain ⟨y, hy⟩ : ∃ y, xe[k] = y := ⟨_, rfl⟩
          rw [hy] at r0 r1 r2 hst
          obtain ⟨L, hL⟩ : ∃ L, gath G (xe.take k) = L := ⟨_, rfl⟩
          rw [hL] at HOK hst hLl
          have hle := HLE.out
          have hLb : L.length ≤ 200000 := by omega
          obtain ⟨A3, c3, e3, -, -⟩ := own_form HOK.out
          subst e3
          obtain ⟨ea, eb, ec⟩ := y
          dsimp only at r0 r1 r2
          have hins : insL (ea, eb, ec) L = ([] ++ outL ea L ++ [(ea, eb, ec)]) ++ stayL ea L := by unfold insL; simp
          have hol : (outL ea L).length ≤ L.length := List.length_filter_le ..
          have hsl : (stayL ea L).length ≤ L.length := List.length_filter_le ..
          have hsp := rsplit_any L (by omega) ea wr A3 c3 (Lies.of_own HOK.out)
          obtain ⟨O, hO⟩ : ∃ R, outL ea L = R := ⟨_, rfl⟩
          obtain ⟨Sx, hS⟩ : ∃ R, stayL ea L = R := ⟨_, rfl⟩
          rw [hO, hS] at hsp hins
          rw [hO] at hol
          rw [hS] at hsl
          obtain ⟨NL, hNL⟩ : ∃ R, L.length = R := ⟨_, rfl⟩
          rw [hNL] at hsp hol hsl hLb ⊢
          have K1 := Lib.hid hsp
          have HINS := Lib.hid (hst.trans hins)
          have HC1 := Lib.hid (show ([] : List Ev).length + O.length ≤ 10000000 by simp; omega)
          have HC2 := Lib.hid (show ([] ++ O).length + [(ea, eb, ec)].length ≤ 10000000 by simp; omega)
          have HC3 := Lib.hid (show ([] ++ O ++ [(ea, eb, ec)]).length + Sx.length ≤ 10000000 by simp; omega)
          have HR := Lib.hid (And.intro r0 (And.intro r1 r2))
          clear hc2 hy hL hst hins hol hsl hsp hO hS hNL hLl hle hLb hkl r1 r2
          go_upto_region 9 with (go_at_call 36; (with_reducible refine K1.out.mono ?_); rintro e w2 ⟨v1, v2, rfl, ht, hb1⟩; have HT := Lib.hid ht; have B2 := Lib.hid hb1; have L1 := Lib.hid (Lies.of_own (L := evL) ht.1); clear ht hb1)
          have L2 := Lib.hid (Lies.of_own (L := evL) HT.out.2.1)
          clear r0 q4
          have B9 := Lib.hid (thn HBK.out B2.out)
          go_upto_region 10 with (at_builtin; refine wpList_app2 41 _ 24 info_event Try.underlying27 rfl (by decide) (by decide) _ rfl _ _ rfl w2.heap.size _ _ [] O _ rfl (own_new (L := evL) w2 41 #[] 0 w2.heap.size [] rfl rfl (Nat.le_refl _) (by unfold maxLen; omega)) rfl (L1.out.alloc (Nat.le_refl _) _) (ev_one _) HC1.out (by simp) ?_; intro v3 w3 o3 g3 a3; have O3 := Lib.hid o3; have b3 := ((Below.refl w2.heap.size w2).alloc (Nat.le_refl _) (.cells #[] 41)).grown g3 (by simp) (fun q hq => ((own_new (L := evL) w2 41 #[] 0 w2.heap.size [] rfl rfl (Nat.le_refl _) (by unfold maxLen; omega)).lt q hq).1); have B3 := Lib.hid b3; clear o3 g3 a3 b3)
          have h9 := B9.out.trans (B3.out.mono B9.out.size)
          have q4 := HQ4.out _ h9
          obtain ⟨r0, r1, r2⟩ := HR.out
          have r0 := ((B2.out.trans (B3.out.mono B2.out.size)).cell (p := ⟨b2, o2 + k * 3, none⟩) hb2k).trans r0
          have r1 := ((B2.out.trans (B3.out.mono B2.out.size)).cell (p := ⟨b2, o2 + k * 3 + 1, none⟩) hb2k).trans r1
          have r2 := ((B2.out.trans (B3.out.mono B2.out.size)).cell (p := ⟨b2, o2 + k * 3 + 2, none⟩) hb2k).trans r2
          clear h9
          go_upto_region 11 with (at_builtin; refine wpList_app2 41 _ 24 info_event Try.underlying27 rfl (by decide) (by decide) _ rfl _ _ rfl w2.heap.size _ _ ([] ++ O) [(ea, eb, ec)] _ rfl (World.ownsRow.alloc O3.out _) rfl (lit_ev _ _ _ rfl (ea, eb, ec)) (ev_one _) HC2.out (by have := B3.out.size; simp; omega) ?_; intro v4 w4 o4 g4 a4; have O4 := Lib.hid o4; have b4 := (B3.out.alloc B3.out.size _).grown g4 (by have := B3.out.size; simp; omega) (fun q hq => (O3.out.lt q hq).1); have B4 := Lib.hid b4; clear o4 g4 a4 b4)
          clear r0 r1 r2 q4
          go_wp2_with (at_builtin; refine wpList_app2 41 _ 24 info_event Try.underlying27 rfl (by decide) (by decide) _ rfl _ _ rfl w2.heap.size _ _ ([] ++ O ++ [(ea, eb, ec)]) Sx _ rfl O4.out rfl (L2.out.below B4.out) (ev_one _) HC3.out B4.out.size ?_; intro v5 w5 o5 g5 a5; have O5 := Lib.hid o5; have b5 := B4.out.grown g5 B4.out.size (fun q hq => (O4.out.lt q hq).1); have B5 := Lib.hid b5; clear o5 g5 a5 b5)
          refine ⟨⟨k + 1, by go_num, hlk, Lib.hid ?_, Lib.hid (thn B9.out B5.out)⟩, by simp [intOf]; omega⟩
          rw [HINS.out]
          exact own_le O5.out B9.out.size
        · have e : k = NX := by omega
          subst e
          have ht : xe.take xe.length = xe := List.take_length
          rw [HNX.out] at ht
          rw [ht] at HOK
          go_wp2
          refine ⟨⟨i + 1, by go_num, hlt, Lib.hid ?_, HBK⟩, by simp [intOf]; omega⟩
          rw [E1.out, gath_app, HG.out]
          exact HOK.out
    · have e : i = n := by omega
      subst e
      have ht : xs.take xs.length = xs := List.take_length
      rw [HN.out] at ht
      rw [ht] at HO
      obtain ⟨A9, c9, rfl, -, -⟩ := own_form HO.out
      go_wp2
      go_ret
      exact ⟨A9, c9, rfl, HO.out, HB.out⟩
end Go.Proofs.Ythncmjimfkbofaa
end
section
/- The contract of the document's Join. -/
namespace Go.Proofs.Ythncmjimfkbofaa
set_option linter.unusedVariables false
open Go.RowKit Go.Shelf Go.Proofs.Rw Go.Proofs.Lh Go.Proofs.Bu Go.Proofs.So

/-- What holds at each round. -/
def JoinQ (xs : List Bs) (l r : Int) (b2 b4 base : Nat) (w : World) (j : Nat) (wr : World) : Prop :=
  wr.heap[b4]? = some (.cells #[.int .u64 l, .int .i64 r, .int .u64 (mkOf (xs.take j) : Int), .int .u64 (frOf (xs.take j) : Int), .slice none 0 0] 29) ∧
    wr.heap[b2]? = some (.cells #[.int .u64 0, .int .i64 0, .int .u64 0, .int .u64 0, .slice none 0 0] 29) ∧ Below base w wr

set_option maxRecDepth 100000 in
set_option maxHeartbeats 8000000 in
theorem rjoin_any (xs : List Bs) (hx : 0 < xs.length) (hlen : xs.length ≤ 1000) (hev : (evsOf xs).length ≤ 100000) (w : World) (A : Option Addr) (n c : Nat) (hn : xs.length = n) (h : BufsIn w w.heap.size (.slice A n c) xs) :
    Calls Try.prog 14 #[.slice A n c] w fun e w' => ∃ A1 c1 A2 c2, e = .returned (.tuple #[bufV (joinB xs (xs[0]'hx).1) A1 c1, .slice A2 (outL (frOf xs) (gath [] (evsOf xs))).length c2]) ∧
      Lies evL w' w'.heap.size (.slice A1 (stayL (frOf xs) (gath [] (evsOf xs))).length c1) (stayL (frOf xs) (gath [] (evsOf xs))) ∧ Lies evL w' w'.heap.size (.slice A2 (outL (frOf xs) (gath [] (evsOf xs))).length c2) (outL (frOf xs) (gath [] (evsOf xs))) ∧ Below w.heap.size w w' := by
  have hrow := h.row
  obtain ⟨b, off, rfl, hb, -, hc⟩ := bf_at hrow hx
  obtain ⟨q0, q1, -, -, -⟩ := hc 0 hx
  obtain ⟨x0, hx0⟩ : ∃ x, (xs[0]'hx) = x := ⟨_, rfl⟩
  rw [hx0] at q0 q1 ⊢
  rw [Nat.zero_mul, Nat.add_zero] at q0 q1
  have HX := Lib.hid h
  have HN := Lib.hid hn
  have HXX := Lib.hid hx
  have HEV := Lib.hid hev
  have hn0 : 0 < n := by omega
  have hnk : n ≤ 1000 := by omega
  have hnz : ¬ ((n : Int) = 0) := by omega
  have hnb : ((n : Int) == 0) = false := by simpa using hnz
  obtain ⟨W0, hW0⟩ : ∃ W, w.alloc (.cells #[.int .u64 0, .int .i64 0, .int .u64 0, .int .u64 0, .slice none 0 0] 29) = W := ⟨_, rfl⟩
  have p0 : W0.heap[w.heap.size]? = some (.cells #[.int .u64 0, .int .i64 0, .int .u64 0, .int .u64 0, .slice none 0 0] 29) := by rw [← hW0]; exact heap_alloc_new w _
  have b0 : Below w.heap.size w W0 := by rw [← hW0]; exact (Below.refl _ w).alloc (Nat.le_refl _) _
  have s0 : W0.heap.size = w.heap.size + 1 := by rw [← hW0]; simp
  have q0' := (b0.cell (p := ⟨b, off, none⟩) hb).trans q0
  have q1' := (b0.cell (p := ⟨b, off + 1, none⟩) hb).trans q1
  have HW0 := Lib.hid hW0
  have P0 := Lib.hid p0
  have B0 := Lib.hid b0
  have hbW : b < W0.heap.size := by omega
  clear h hrow hc q0 q1 hW0 p0 b0 hx0 hn s0 hev
  go_enter Try.func14, Try.ntmps14
  go_upto_region 3 with (fail)
  rw [HW0.out]
  go_region
  obtain ⟨⟨l0, r0, m0, f0, ev0⟩, A0, c0⟩ := x0
  dsimp only at q0' q1' ⊢
  obtain ⟨W1, hW1⟩ : ∃ W, (W0.alloc (.cells #[.int .u64 (l0 : Int), .int .i64 (r0 : Int), .int .u64 0, .int .u64 0, .slice none 0 0] 29)).drew = W := ⟨_, rfl⟩
  rw [hW1]
  have p4 : W1.heap[W0.heap.size]? = some (.cells #[.int .u64 (l0 : Int), .int .i64 (r0 : Int), .int .u64 0, .int .u64 0, .slice none 0 0] 29) := by rw [← hW1]; exact heap_alloc_new W0 _
  have b1 : Below W0.heap.size W0 W1 := by rw [← hW1]; exact ((Below.refl _ W0).alloc (Nat.le_refl _) _).drew
  have p2 := (b1.block _ (lt_of P0.out)).trans P0.out
  have b01 := thn B0.out b1
  obtain ⟨b4, hb4⟩ : ∃ b, W0.heap.size = b := ⟨_, rfl⟩
  obtain ⟨b2, hb2⟩ : ∃ b, w.heap.size = b := ⟨_, rfl⟩
  have hb24 : b2 < b4 := by have := lt_of P0.out; omega
  have hb4w : w.heap.size ≤ b4 := by omega
  rw [hb4] at p4 ⊢
  rw [hb2] at p2 ⊢
  have J0 : JoinQ xs (l0 : Int) (r0 : Int) b2 b4 w.heap.size w 0 W1 := ⟨p4, p2, b01⟩
  have HJ0 := Lib.hid J0
  clear J0 p4 p2 b01 b1 hW1 q0' q1' HW0 P0 B0 hbW hb4
  go_wp2
  go_loopw [5] (fun s5 wr => ∃ j : Nat, s5 = .int .i64 (j : Int) ∧ j ≤ n ∧ Hid (JoinQ xs (l0 : Int) (r0 : Int) b2 b4 w.heap.size w j wr)) (fun s5 _ => n - (intOf s5).toNat)
  case atStart => exact ⟨0, rfl, Nat.zero_le _, HJ0⟩
  case round =>
    obtain ⟨j, rfl, hj, HJ⟩ := hrel
    clear HJ0
    by_cases hlt : j < n
    · have hjl : j < xs.length := by rw [HN.out]; exact hlt
      obtain ⟨p4, p2, hbel⟩ := HJ.out
      obtain ⟨b', off', e, hb', -, hc⟩ := bf_at (HX.out.below hbel).row HXX.out
      cases e
      obtain ⟨-, -, q2, q3, -⟩ := hc j hjl
      obtain ⟨-, e2, e3⟩ := join_take hjl
      obtain ⟨x, hx⟩ : ∃ x, xs[j] = x := ⟨_, rfl⟩
      rw [hx] at q2 q3 e2 e3
      obtain ⟨⟨xl, xr, xm, xf, xe⟩, xA, xc⟩ := x
      dsimp only at q2 q3 e2 e3
      obtain ⟨m, hm⟩ : ∃ m, mkOf (xs.take j) = m := ⟨_, rfl⟩
      obtain ⟨f, hf⟩ : ∃ m, frOf (xs.take j) = m := ⟨_, rfl⟩
      rw [hm, hf] at p4
      rw [hm] at e2
      rw [hf] at e3
      have hbb : b < wr.heap.size := Nat.lt_of_lt_of_le hb hbel.size
      have hbne : ¬ b = b4 := by omega
      have hbne' : ¬ b4 = b := by omega
      obtain ⟨M, hM⟩ : ∃ M, max m xm = M := ⟨_, rfl⟩
      obtain ⟨F, hF⟩ : ∃ M, max f xf = M := ⟨_, rfl⟩
      rw [hM] at e2
      rw [hF] at e3
      obtain ⟨⟨y0, y1, y2, y3, y4⟩, fy⟩ := box5 p4
      have ly := lt_of p4
      have hMz : (if m < xm then (xm : Int) else (m : Int)) = (M : Int) := by split <;> omega
      have hFz : (if f < xf then (xf : Int) else (f : Int)) = (F : Int) := by split <;> omega
      have HMZ := Lib.hid hMz
      have HFZ := Lib.hid hFz
      have P4 := Lib.hid p4
      have P2 := Lib.hid p2
      have BB := Lib.hid hbel
      have E2 := Lib.hid e2
      have E3 := Lib.hid e3
      clear hMz hFz p4 p2 hbel e2 e3 hc hx hm hf hM hF hjl HJ
      go_upto_region 7 with (fail)
      go_region
      rw [HMZ.out]
      obtain ⟨W2, hW2⟩ : ∃ W, (wr.setCell ⟨b4, 2, none⟩ (.int .u64 (M : Int))).drew = W := ⟨_, rfl⟩
      rw [hW2]
      have p42 : W2.heap[b4]? = some (.cells #[.int .u64 (l0 : Int), .int .i64 (r0 : Int), .int .u64 (M : Int), .int .u64 (f : Int), .slice none 0 0] 29) := by
        rw [← hW2]
        show (wr.setCell ⟨b4, 2, none⟩ (.int .u64 (M : Int))).heap[b4]? = _
        rw [heap_setCell_same _ _ 2 _ _ _ P4.out]
        rfl
      have g12 : wr.grownBy W2 (some b4) := by rw [← hW2]; exact grown_trans (grown_set _ _ _ _) (grown_drew _ _)
      have q3' : W2.cell? ⟨b, off + j * 5 + 3, none⟩ = some (.int .u64 (xf : Int)) := (World.cell?_of_block (w := wr) (g12.block b hbb (by simp; omega))).trans q3
      have hbb2 : b < W2.heap.size := Nat.lt_of_lt_of_le hbb g12.size
      clear q2 q3 y0 y1 y2 y3 y4 fy hW2
      obtain ⟨⟨y0, y1, y2, y3, y4⟩, fy⟩ := box5 p42
      have ly2 := lt_of p42
      have P42 := Lib.hid p42
      have G12 := Lib.hid g12
      clear p42 g12
      go_upto_region 8 with (fail)
      go_region
      rw [HFZ.out]
      obtain ⟨W3, hW3⟩ : ∃ W, (W2.setCell ⟨b4, 3, none⟩ (.int .u64 (F : Int))).drew = W := ⟨_, rfl⟩
      rw [hW3]
      have p43 : W3.heap[b4]? = some (.cells #[.int .u64 (l0 : Int), .int .i64 (r0 : Int), .int .u64 (M : Int), .int .u64 (F : Int), .slice none 0 0] 29) := by
        rw [← hW3]
        show (W2.setCell ⟨b4, 3, none⟩ (.int .u64 (F : Int))).heap[b4]? = _
        rw [heap_setCell_same _ _ 3 _ _ _ P42.out]
        rfl
      have g13 : wr.grownBy W3 (some b4) := grown_trans G12.out (by rw [← hW3]; exact grown_trans (grown_set _ _ _ _) (grown_drew _ _))
      have hJ : JoinQ xs (l0 : Int) (r0 : Int) b2 b4 w.heap.size w (j + 1) W3 := by
        refine ⟨?_, (g13.block b2 (lt_of P2.out) (by simp; omega)).trans P2.out, below_row BB.out g13 hb4w⟩
        rw [E2.out, E3.out]
        exact p43
      have HJ1 := Lib.hid hJ
      clear hW3 p43 g13 hJ y0 y1 y2 y3 y4 fy q3'
      go_wp2
      go_roundw
      case rel => exact ⟨j + 1, by go_num, hlt, HJ1⟩
      case measure => simp [intOf]; omega
    · have e : j = n := by omega
      subst e
      have ht : xs.take xs.length = xs := List.take_length
      rw [HN.out] at ht
      obtain ⟨p4, p2, hbel⟩ := HJ.out
      rw [ht] at p4
      have hga := fun (W : World) (hW : Below wr.heap.size wr W) => rgather_any xs (by omega) HEV.out W _ j c HN.out ((HX.out.below (thn hbel hW)).mono (thn hbel hW).size)
      obtain ⟨E, hE⟩ : ∃ m, evsOf xs = m := ⟨_, rfl⟩
      obtain ⟨M, hM⟩ : ∃ m, mkOf xs = m := ⟨_, rfl⟩
      obtain ⟨F, hF⟩ : ∃ m, frOf xs = m := ⟨_, rfl⟩
      rw [hM, hF] at p4
      have hgl : (gath [] E).length ≤ 100000 := by rw [gath_len]; have := HEV.out; rw [hE] at this; simpa using this
      rw [hE] at hga
      obtain ⟨G, hG⟩ : ∃ m, gath [] E = m := ⟨_, rfl⟩
      rw [hG] at hga hgl
      have hsp := fun (W : World) (A : Option Addr) (c : Nat) (h : Lies evL W W.heap.size (.slice A G.length c) G) => rsplit_any G (by omega) F W A c h
      obtain ⟨T, hT⟩ : ∃ T, stayL F G = T := ⟨_, rfl⟩
      obtain ⟨O, hO⟩ : ∃ T, outL F G = T := ⟨_, rfl⟩
      obtain ⟨NG, hNG⟩ : ∃ T', G.length = T' := ⟨_, rfl⟩
      rw [hT, hO, hNG] at hsp
      rw [hNG] at hga
      obtain ⟨⟨y0, y1, y2, y3, y4⟩, fy⟩ := box5 p4
      have ly := lt_of p4
      have KG := Lib.hid hga
      have KS := Lib.hid hsp
      have P4 := Lib.hid p4
      have P2 := Lib.hid p2
      have BB := Lib.hid hbel
      have HFIN := Lib.hid (And.intro hE (And.intro hM (And.intro hF (And.intro hG (And.intro hT hO)))))
      have HNG := Lib.hid hNG
      clear hga hsp p4 p2 hbel hE hM hF hG hT hO hNG ht HJ hgl
      go_upto_region 9 with (fail)
      go_cut [6, 7] from 21 to 52 (fun s6 s7 wx => OwnE wx wr.heap.size s6 O ∧ OwnE wx wr.heap.size s7 T ∧ Below wr.heap.size wr wx)
      case first =>
        go_region_law (first
          | (go_simp; (with_reducible refine (KG.out _ (Below.refl _ wr).drew).mono ?_); rintro e w1 ⟨A1, c1, rfl, ho, hb1⟩; have HB1 := Lib.hid hb1; have HO1 := Lib.hid ho; (have y3 := (hb1.cell (p := ⟨b4, 3, none⟩) ly).trans y3); clear ho hb1)
          | (go_simp; (with_reducible refine (KS.out _ _ _ (Lies.of_own HO1.out)).mono ?_); rintro e w2 ⟨v1, v2, rfl, ht, hb2⟩; have HB2 := Lib.hid hb2; have HT2 := Lib.hid ht; clear ht hb2))
        all_goals
          have hb1 := (Below.refl wr.heap.size wr).drew.trans HB1.out
          have R := Lib.hid (And.intro (own_le HT2.out.1 HB1.out.size) (And.intro (own_le HT2.out.2.1 HB1.out.size) (thn hb1 HB2.out)))
          clear hb1
          go_wp2
          go_meet
          case rel => exact R.out
      case rest =>
        obtain ⟨h6, h7, hb1⟩ := hcut
        rename World => wx
        obtain ⟨hE, hM, hF, hG, hT, hO⟩ := HFIN.out
        obtain ⟨A6, c6, e6, -, -⟩ := own_form h6
        obtain ⟨A7, c7, e7, -, -⟩ := own_form h7
        subst e6
        subst e7
        have l6 := Lies.of_own h6
        have l7 := Lies.of_own h7
        have p4 := (hb1.block _ (lt_of P4.out)).trans P4.out
        have p2 := (hb1.block _ (lt_of P2.out)).trans P2.out
        have hbel := thn BB.out hb1
        obtain ⟨NT, hNT⟩ : ∃ N, T.length = N := ⟨_, rfl⟩
        obtain ⟨NO, hNO⟩ : ∃ N, O.length = N := ⟨_, rfl⟩
        have ne6 : ∀ b2', b2' < wr.heap.size → O ≠ [] → ∀ b, (Value.slice A6 NO c6).ownBlock = some b → some b ≠ some b2' := fun b2' h2 _ b hb e => by
          injection e with e
          rw [← hNO] at hb
          have := (h6.lt b hb).1
          omega
        have ne7 : ∀ b2', b2' < wr.heap.size → T ≠ [] → ∀ b, (Value.slice A7 NT c7).ownBlock = some b → some b ≠ some b2' := fun b2' h2 _ b hb e => by
          injection e with e
          rw [← hNT] at hb
          have := (h7.lt b hb).1
          omega
        rw [hNO] at l6 ⊢
        rw [hNT] at l7 ⊢
        obtain ⟨W5, hW5⟩ : ∃ W, wx.setCell ⟨b4, 4, none⟩ (.slice A7 NT c7) = W := ⟨_, rfl⟩
        have p45 : W5.heap[b4]? = some (.cells #[.int .u64 (l0 : Int), .int .i64 (r0 : Int), .int .u64 (M : Int), .int .u64 (F : Int), .slice A7 NT c7] 29) := by rw [← hW5, heap_setCell_same _ _ 4 _ _ _ p4]; rfl
        have p25 : W5.heap[b2]? = some (.cells #[.int .u64 0, .int .i64 0, .int .u64 0, .int .u64 0, .slice none 0 0] 29) := by rw [← hW5, Below.heap_setCell _ _ _ _ (by simp; omega)]; exact p2
        have g5 : wx.grownBy W5 (some b4) := by rw [← hW5]; exact grown_set _ _ _ _
        obtain ⟨W9, hW9, q9, g9⟩ := fin5 p25 (.int .u64 (l0 : Int)) (.int .i64 (r0 : Int)) (.int .u64 (M : Int)) (.int .u64 (F : Int)) (.slice A7 NT c7)
        have l69 := Lies.off2 (Lies.off2 l6 g5 (ne6 b4 (lt_of P4.out))) g9 (ne6 b2 (lt_of P2.out))
        have l79 := Lies.off2 (Lies.off2 l7 g5 (ne7 b4 (lt_of P4.out))) g9 (ne7 b2 (lt_of P2.out))
        have b9 := below_row (below_row hbel g5 hb4w) g9 (by omega)
        have hf : ∃ B1 d1 B2 d2, Ending.returned (.tuple #[bval (l0 : Int) (r0 : Int) (M : Int) (F : Int) (.slice A7 NT c7), .slice A6 NO c6]) = .returned (.tuple #[bufV (joinB xs ⟨l0, r0, m0, f0, ev0⟩) B1 d1, .slice B2 (outL (frOf xs) (gath [] (evsOf xs))).length d2]) ∧ Lies evL W9 W9.heap.size (.slice B1 (stayL (frOf xs) (gath [] (evsOf xs))).length d1) (stayL (frOf xs) (gath [] (evsOf xs))) ∧
            Lies evL W9 W9.heap.size (.slice B2 (outL (frOf xs) (gath [] (evsOf xs))).length d2) (outL (frOf xs) (gath [] (evsOf xs))) ∧ Below w.heap.size w W9 := by
          refine ⟨A7, c7, A6, c6, ?_, ?_, ?_, b9⟩
          · unfold bufV bval joinB
            dsimp only
            rw [hE, hM, hF, hG, hT, hO, hNT, hNO]
          · rw [hE, hF, hG, hT, hNT]
            exact l79
          · rw [hE, hF, hG, hO, hNO]
            exact l69
        rw [hb2] at hf
        obtain ⟨⟨x0, x1, x2, x3, x4⟩, fx⟩ := box5 p4
        have lx := lt_of p4
        obtain ⟨⟨t0, t1, t2, t3, t4⟩, -⟩ := box5 p45
        have lt4 := lt_of p45
        obtain ⟨⟨v0, v1, v2, v3, v4⟩, fv⟩ := box5 p25
        have lv := lt_of p25
        obtain ⟨⟨z0, z1, z2, z3, z4⟩, -⟩ := box5 q9
        have HW5 := Lib.hid hW5
        have HW9 := Lib.hid hW9
        have HF := Lib.hid hf
        have Z := Lib.hid (And.intro z0 (And.intro z1 (And.intro z2 (And.intro z3 z4))))
        clear hE hM hF hG hT hO h6 h7 l6 l7 p4 p2 hbel ne6 ne7 hW5 p45 p25 g5 hW9 q9 g9 l69 l79 b9 hf hNT hNO z0 z1 z2 z3 z4 y0 y1 y2 y3 y4 fy HFIN
        go_upto_region 11 with (fail)
        rw [HW5.out]
        clear x0 x1 x2 x3 x4 fx
        go_wp2
        rw [HW9.out]
        obtain ⟨z0, z1, z2, z3, z4⟩ := Z.out
        exact bodyPost_ret (v := .tuple #[bval (l0 : Int) (r0 : Int) (M : Int) (F : Int) (.slice A7 NT c7), .slice A6 NO c6]) (by simp [results, Try.results14, go_sem, z0, z1, z2, z3, z4]) rfl HF.out
end Go.Proofs.Ythncmjimfkbofaa
end
