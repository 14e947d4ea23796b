/- The contract of the function that hist.reached tells: it is ranged over. -/
import Derived.Test.YtafcgfhkeceiaaaFacts
import Derived.Test.YtafcgfhkeceiaaaHRefuse
namespace Go.Proofs.Ytafcgfhkeceiaaa
open Go.RowKit Go.Shelf Go.Proofs.Rw Go.Proofs.Lh Go.Proofs.Rn Go.Proofs.Rf
open Go.Proofs.Lm (stay went leftN)

attribute [local go_sem] Oper.semAt_some

/-- What a round keeps: blocks below B, and all cells but those of slices of buckets, and of slices of these. -/
structure Kt (B : Nat) (W W' : World) : Prop where
  size : W.heap.size ≤ W'.heap.size
  block : ∀ b, b < B → W'.heap[b]? = W.heap[b]?
  typed : ∀ (b : Nat) (cs : Array Value) (t : TypeId) (fr : Nat × Nat), W.heap[b]? = some (Obj.cells cs t fr) → t ≠ 38 → t ≠ 26 → W'.heap[b]? = W.heap[b]?
theorem Kt.refl (B : Nat) (W : World) : Kt B W W := ⟨Nat.le_refl _, fun _ _ => rfl, fun _ _ _ _ _ _ _ => rfl⟩
theorem Kt.trans {B : Nat} {X Y Z : World} (h : Kt B X Y) (k : Kt B Y Z) : Kt B X Z :=
  ⟨Nat.le_trans h.size k.size, fun b hb => (k.block b hb).trans (h.block b hb), fun b cs t fr e h1 h2 => (k.typed b cs t fr ((h.typed b cs t fr e h1 h2).trans e) h1 h2).trans (h.typed b cs t fr e h1 h2)⟩
theorem Kt.put {B : Nat} {w : World} (hB : B ≤ w.heap.size) (W : World) (l : Nat) (o o' : Obj) (hl : w.heap.size ≤ l) (ho : W.heap[l]? = some o) (hc : o.isCells = false) : Kt B W (W.putObj l o') := by
  refine ⟨by simp, fun b hb => World.putObj_heap_other (by omega), fun b cs t fr e _ _ => World.putObj_heap_other fun e2 => ?_⟩
  subst e2
  rw [e] at ho
  injection ho with ho
  rw [← ho] at hc
  cases hc
theorem Kt.of_below {B : Nat} {W W' : World} (h : Below W.heap.size W W') (hB : B ≤ W.heap.size) : Kt B W W' := ⟨h.size, fun b hb => h.block b (by omega), fun b _ _ _ e _ _ => h.block b (Array.getElem?_eq_some_iff.1 e).1⟩
theorem own_base {w : World} {base base' : Nat} {v : Value} {xs : List Sp} (h : Own w base v xs) (hb : base' ≤ base) : Own w base' v xs := by
  refine ⟨h.1, ?_⟩
  rcases h.2 with h4 | ⟨g, cap, cur, hv, hg, r⟩
  · exact .inl h4
  · exact .inr ⟨g, cap, cur, hv, by omega, r⟩
theorem own_kt {B : Nat} {w w' : World} {base : Nat} {v : Value} {xs : List Sp} (h : Own w base v xs) (hk : Kt B w w') : Own w' base v xs := by
  refine ⟨h.1, ?_⟩
  rcases h.2 with h4 | ⟨g, cap, cur, hv, hg, hh, r⟩
  · exact .inl h4
  · exact .inr ⟨g, cap, cur, hv, hg, (hk.typed g _ _ _ hh (by decide) (by decide)).trans hh, r⟩
theorem own_nw {w : World} {b n : Nat} {A : Option Addr} {xs : List Sp} (h : Own w b (.slice A xs.length xs.length) xs) (e : xs.length = n) : Own w b (.slice A n n) xs := by
  subst e
  exact h

/-- The round k: the level k as it is then, in new memory. -/
def PxR (N0 : Nat) (R : Lv) (k : Nat) (x : Yl) (W : World) : Prop := k < R.length ∧ x.i = k ∧ x.n = (lev R k).length ∧ (∃ b1, x.A = some ⟨b1, 0, none⟩ ∧ N0 ≤ b1) ∧ Own W N0 (.slice x.A x.n x.c) (lev R k)
theorem PxR.put {N0 : Nat} {R : Lv} {w : World} (k : Nat) (x : Yl) (W : World) (l : Nat) (o o' : Obj) (_ : w.heap.size ≤ l) (ho : W.heap[l]? = some o) (hc : o.isCells = false) (h : PxR N0 R k x W) : PxR N0 R k x (W.putObj l o') :=
  ⟨h.1, h.2.1, h.2.2.1, h.2.2.2.1, ownsRow_putObj h.2.2.2.2 o' ho hc⟩
theorem pxR {N0 j b1 : Nat} {R : Lv} {st : List Sp} {wr wy : World} (hj : j < R.length) (hst : st = lev R j) (o1 : Own wy wr.heap.size (.slice (some ⟨b1, 0, none⟩) st.length st.length) st) (hz : N0 ≤ wr.heap.size) : PxR N0 R j ⟨j, some ⟨b1, 0, none⟩, st.length, st.length⟩ wy := by
  subst hst
  exact ⟨hj, rfl, rfl, ⟨b1, rfl, Nat.le_trans hz (o1.lt b1 rfl).1⟩, own_base o1 hz⟩

theorem room_rm (k j : Nat) : roomOf (leastI k j + 1) = rm k j := by
  unfold roomOf leastI rm
  by_cases h : j = 0
  · subst h
    simp
    omega
  · rw [if_neg h, if_neg (by omega)]
    omega
theorem least_small (k j : Nat) (hk : k ≤ 1024) : leastI k j + 1 ≤ 1000000 := by
  unfold leastI
  split <;> omega

set_option maxRecDepth 100000 in
set_option maxHeartbeats 4000000 in
theorem reach1_in (n : Nat) (hn : 1 ≤ n) (B bW bH bT k : Nat) (g : Int) (ls R : Lv) (t n0 : Nat) (hmd : Made k ls) (hn0 : n0 ≤ 4503599627370496) (hR : R = addW k ls t n0) (hRl : R.length ≤ 1000) (w : World) (hB : B ≤ w.heap.size) (A : Option Addr) (c : Nat) (h : Levs w B (.slice A ls.length c) ls)
    (hbW : w.heap[bW]? = some (.cells #[.int .u64 n0] 23)) (hbH : w.heap[bH]? = some (.cells #[.int .i64 (k : Int), .int .i64 g, .slice A ls.length c] 31)) (hbT : w.heap[bT]? = some (.cells #[.int .u64 t] 23)) :
    SeqN Fence.wide n Try.prog 39 #[.pointer (some ⟨bW, 0, none⟩), .pointer (some ⟨bH, 0, none⟩), .pointer (some ⟨bT, 0, none⟩)] encY (PxR w.heap.size R) (Kt B) (fun m => m ≤ R.length ∧ R.drop m = ls.drop m) w := by
  intro yl J Jx W hW hJ hJx hY hJ0
  have hat0 : At k ls t R 0 [] n0 := hR ▸ At.start k ls t n0 hn0
  have hL := h.below (hW.mono hB)
  have c0 : W.cell? ⟨bW, 0, none⟩ = some (.int .u64 n0) := (box1 ((hW.block bW (lt_of hbW)).trans hbW)).1
  have hwl : bW < W.heap.size := Nat.lt_of_lt_of_le (lt_of hbW) hW.size
  have hbH2 := (hW.block bH (lt_of hbH)).trans hbH
  have hbT2 := (hW.block bT (lt_of hbT)).trans hbT
  have HBH := Lib.hid hbH2
  have HBT := Lib.hid hbT2
  have HMD := Lib.hid hmd
  have HA0 := Lib.hid hat0
  have HJ := Lib.hid hJ
  have HY := Lib.hid hY
  have HL := Lib.hid hL
  have HW := Lib.hid hW
  obtain ⟨N, hN⟩ : ∃ N, ls.length = N := ⟨_, rfl⟩
  rw [hN] at HBH HL
  have HN := Lib.hid hN
  clear hJ hJx hY h hL hbW hbH hbT hbH2 hbT2 hN hW hR hmd hat0
  refine callsIn_of_wp Try.func39 rfl trivial ?_ rfl
  simp only [Try.ntmps39, List.size_toArray, List.length_cons, List.length_nil, Nat.reduceAdd, Nat.reduceSub, Array.replicate_succ, Array.replicate_zero, List.push_toArray, List.append_toArray, List.nil_append, List.cons_append]
  gi_wp2
  gi_loopw [5, 6, 7, 8] (fun _ s6 s7 s8 wr => ∃ (j : Nat) (come : List Sp) (many : Nat) (A2 : Option Addr) (n2 c2 : Nat), s6 = .slice A2 n2 c2 ∧ s7 = .int .u64 (many : Int) ∧ s8 = .int .i64 (j : Int) ∧ come.length = n2 ∧ j ≤ R.length ∧ At k ls t R j come many ∧ Own wr W.heap.size (.slice A2 n2 c2) come ∧ J j wr ∧ Kt B W wr) (fun _ _ _ s8 _ => R.length - (intOf s8).toNat)
  case atStart => exact ⟨0, [], n0, none, 0, 0, rfl, rfl, rfl, rfl, Nat.zero_le _, HA0.out, World.ownsRow_nil _ _ _ _, hJ0, Kt.refl _ _⟩
  case round =>
    obtain ⟨j, come, many, A2, n2, c2, rfl, rfl, rfl, hn2, hjR, hAt, hown, hJs, hK⟩ := hrel
    have hsz : B ≤ wr.heap.size := Nat.le_trans hB (Nat.le_trans HW.out.size hK.size)
    have hLr : Levs wr B (.slice A N c) ls := HL.out.keep hK.block
    have pH := (hK.typed bH _ _ _ HBH.out (by decide) (by decide)).trans HBH.out
    have pT := (hK.typed bT _ _ _ HBT.out (by decide) (by decide)).trans HBT.out
    obtain ⟨x0, x1, x2⟩ := box3 pH
    have x3 := (box1 pT).1
    have H0 := Lib.hid x0
    have H1 := Lib.hid x1
    have H2 := Lib.hid x2
    have HT0 := Lib.hid x3
    have HLH := Lib.hid (lt_of pH)
    have HLT := Lib.hid (lt_of pT)
    have HSZ := Lib.hid (Nat.le_trans HW.out.size hK.size)
    have HSZ2 := Lib.hid hK.size
    have hmost := hAt.most
    have hfew := hAt.few
    have hlj := HMD.out.lev j
    obtain ⟨l, hl⟩ : ∃ l, lev ls j = l := ⟨_, rfl⟩
    rw [hl] at hlj
    obtain ⟨m, hm⟩ : ∃ m, l.length = m := ⟨_, rfl⟩
    obtain ⟨M, hM⟩ : ∃ M, leastI k j + 1 = M := ⟨_, rfl⟩
    have hk1 := HMD.out.k1
    have hM2 : M ≤ 1000000 := by have := least_small k j hk1; omega
    have hat : ∀ W2, Grows wr W2 → Calls Try.prog 36 #[.agg #[.int .i64 (k : Int), .int .i64 g, .slice A N c], .int .i64 (j : Int)] W2 fun e w' => ∃ A' c', e = .returned (.slice A' m c') ∧ Lies spL W2 W2.heap.size (.slice A' m c') l ∧ Below W2.heap.size W2 w' := by
      intro W2 hG
      have hg : Below wr.heap.size wr W2 := hG
      have := at_any k g ls j W2 B (Nat.le_trans hsz hg.size) A c (by rw [HN.out]; exact hLr.below (hg.mono hsz))
      rw [hl, hm, HN.out] at this
      refine this.mono ?_
      rintro e w' ⟨A', c', he, hL, hb⟩
      exact ⟨A', c', he, hL.mono (Nat.le_trans hsz hg.size), hb⟩
    have hmo : ∀ W2, Calls Try.prog 41 #[.int .i64 (k : Int), .int .i64 (j : Int)] W2 fun e w' => e = .returned (.int .i64 M) ∧ W2 = w' := by
      intro W2
      rw [← hM]
      exact most_any k j (by omega) W2
    obtain ⟨st, hst⟩ : ∃ st, stay (l ++ come) t many (rm k j) = st := ⟨_, rfl⟩
    obtain ⟨we, hwe⟩ : ∃ we, went (l ++ come) t many (rm k j) = we := ⟨_, rfl⟩
    obtain ⟨lf, hlf⟩ : ∃ lf, leftN (l ++ come).length many (rm k j) = lf := ⟨_, rfl⟩
    have hpu : ∀ W2, Grows wr W2 → ∀ A' c', Lies spL W2 W2.heap.size (.slice A' m c') l → Calls Try.prog 40 #[.slice A' m c', .int .i64 M, .slice A2 n2 c2, .int .u64 (many : Int), .int .u64 (t : Int)] W2 fun e w' => Pushed W2 w' e st we lf := by
      intro W2 hG A' c' hLl
      have hg : Below wr.heap.size wr W2 := hG
      have hLc : Lies spL W2 W2.heap.size (.slice A2 n2 c2) come := by
        have := Lies.of_own (L := spL) hown
        exact this.grow hg
      have := push_any l come M many t (by omega) hM2 (by omega) W2 W2.heap.size A' A2 c' c2 (by rw [hm]; exact hLl) (by rw [hn2]; exact hLc) (Nat.le_refl _)
      rw [← hM, room_rm, hst, hwe, hlf, hm, hn2, hM] at this
      exact this
    have hnext : full come t many ≠ [] ∨ j < ls.length → j < R.length ∧ st = lev R j ∧ At k ls t R (j + 1) we lf := by
      intro hgo
      obtain ⟨a1, a2, a3⟩ := hAt.next (by rw [hl]; omega) hgo
      rw [hl, hst] at a2
      rw [hl, hwe, hlf] at a3
      exact ⟨a1, a2.symm, a3⟩
    have hdone : full come t many = [] → R.drop j = ls.drop j := fun hz => hAt.done HMD.out.few hz
    have HAT := Lib.hid hat
    have HM := Lib.hid hmo
    have HPU := Lib.hid hpu
    have HNX := Lib.hid hnext
    have HDN := Lib.hid hdone
    have HN2 := Lib.hid hn2
    have HKK := Lib.hid hK
    have HJR := Lib.hid hjR
    clear hat hmo hpu hnext hdone hAt hown pH pT x0 x1 x2 x3 hLr hst hwe hlf hM hl hm c0 hwl hJ0 hK hlj hk1 hM2 hn2 hjR
    by_cases h1 : 0 < n2
    · obtain ⟨hRJ, hST, hAN⟩ := HNX.out (.inl fun e => by have := (full_nil.1 e).1; have := HN2.out; omega)
      have HRJ := Lib.hid hRJ
      have HST := Lib.hid hST
      have HAN := Lib.hid hAN
      have hjj : j < 1000 := by omega
      clear hRJ hST hAN HNX HDN HN2
      have g1 : (0 : Int) < (n2 : Int) := by omega
      gi_wp2
      refine wpIn_wide.2 ?_
      refine region_facts0 (fr := ?frA) 11 [20, 21, 22, 23, 24, 25, 26, 27, 28, 29, 30] (fun i v W => match i with
          | 0 => v = .agg #[.int .i64 (k : Int), .int .i64 g, .slice A N c]
          | 1 => v = .int .i64 (j : Int)
          | 2 => ∃ A' c', v = .slice A' m c' ∧ Lies spL W W.heap.size (.slice A' m c') l
          | 3 => v = .pointer (some ⟨bH, 0, none⟩)
          | 4 => v = .int .i64 (k : Int)
          | 5 => v = .int .i64 (j : Int)
          | 6 => v = .int .i64 M
          | 7 => v = .slice A2 n2 c2
          | 8 => v = .int .u64 (many : Int)
          | 9 => v = .int .u64 (t : Int)
          | 10 => ∃ b1 b2 : Nat, v = .tuple #[.slice (some ⟨b1, 0, none⟩) st.length st.length, .slice (some ⟨b2, 0, none⟩) we.length we.length, .int .u64 (lf : Int)] ∧ Own W wr.heap.size (.slice (some ⟨b1, 0, none⟩) st.length st.length) st ∧ Own W wr.heap.size (.slice (some ⟨b2, 0, none⟩) we.length we.length) we
          | _ => True) rfl ?hBA (by kernel_rfl) (by kernel_rfl) (by kernel_rfl) ?hfrA ?hFA ?hopA ?htailA
      case hBA => kernel_rfl
      case hfrA =>
        intro us
        simp only [putL]
        go_simp
        rfl
      case hFA =>
        intro i v W W' hG h
        match i with
        | 0 => exact h
        | 1 => exact h
        | 2 => obtain ⟨A', c', h1, h2⟩ := h; exact ⟨A', c', h1, h2.grow hG⟩
        | 3 => exact h
        | 4 => exact h
        | 5 => exact h
        | 6 => exact h
        | 7 => exact h
        | 8 => exact h
        | 9 => exact h
        | 10 => obtain ⟨b1, b2, h1, h2, h3⟩ := h; exact ⟨b1, b2, h1, own_below h2 hG, own_below h3 hG⟩
        | n + 11 => trivial
      case hopA =>
        intro i hi us W2 hG hd
        match i, hi with
        | 0, _ =>
          clear hd
          have q0 := (hG.cell (b := bH) (o := 0) HLH.out).trans H0.out
          have q1 := (hG.cell (b := bH) (o := 1) HLH.out).trans H1.out
          have q2 := (hG.cell (b := bH) (o := 2) HLH.out).trans H2.out
          have hs := Nat.lt_of_lt_of_le HLH.out hG.size
          exact hop_value rfl rfl rfl (v := .agg #[.int .i64 (k : Int), .int .i64 g, .slice A N c]) (W' := W2) (by go_simp) (Grows.refl _) rfl
        | 1, _ =>
          clear hd
          exact hop_value rfl rfl rfl (v := .int .i64 (j : Int)) (W' := W2) (by go_simp) (Grows.refl _) rfl
        | 2, _ =>
          have h0 : us 0 = .agg #[.int .i64 (k : Int), .int .i64 g, .slice A N c] := hd 0 (by omega) (by kernel_rfl)
          have h1 : us 1 = .int .i64 (j : Int) := hd 1 (by omega) (by kernel_rfl)
          clear hd
          refine hop_call rfl rfl rfl (f := 36) (args := #[.agg #[.int .i64 (k : Int), .int .i64 g, .slice A N c], .int .i64 (j : Int)]) (by go_simp) ?_
          refine (HAT.out W2 hG).mono ?_
          rintro e W' ⟨A', c', he, hL, hb⟩
          exact ⟨_, he, hb, A', c', rfl, hL.grow hb⟩
        | 3, _ =>
          clear hd
          exact hop_value rfl rfl rfl (v := .pointer (some ⟨bH, 0, none⟩)) (W' := W2) (by go_simp) (Grows.refl _) rfl
        | 4, _ =>
          have h3 : us 3 = .pointer (some ⟨bH, 0, none⟩) := hd 3 (by omega) (by kernel_rfl)
          clear hd
          have q0 := (hG.cell (b := bH) (o := 0) HLH.out).trans H0.out
          have hs := Nat.lt_of_lt_of_le HLH.out hG.size
          exact hop_value rfl rfl rfl (v := .int .i64 (k : Int)) (W' := W2) (by go_simp) (Grows.refl _) rfl
        | 5, _ =>
          clear hd
          exact hop_value rfl rfl rfl (v := .int .i64 (j : Int)) (W' := W2) (by go_simp) (Grows.refl _) rfl
        | 6, _ =>
          have h4 : us 4 = .int .i64 (k : Int) := hd 4 (by omega) (by kernel_rfl)
          have h5 : us 5 = .int .i64 (j : Int) := hd 5 (by omega) (by kernel_rfl)
          clear hd
          refine hop_call rfl rfl rfl (f := 41) (args := #[.int .i64 (k : Int), .int .i64 (j : Int)]) (by go_simp) ?_
          refine (HM.out W2).mono ?_
          rintro e W' ⟨rfl, rfl⟩
          exact ⟨_, rfl, Grows.refl _, rfl⟩
        | 7, _ =>
          clear hd
          exact hop_value rfl rfl rfl (v := .slice A2 n2 c2) (W' := W2) (by go_simp) (Grows.refl _) rfl
        | 8, _ =>
          clear hd
          exact hop_value rfl rfl rfl (v := .int .u64 (many : Int)) (W' := W2) (by go_simp) (Grows.refl _) rfl
        | 9, _ =>
          clear hd
          have q0 := (hG.cell (b := bT) (o := 0) HLT.out).trans HT0.out
          have hs := Nat.lt_of_lt_of_le HLT.out hG.size
          exact hop_value rfl rfl rfl (v := .int .u64 (t : Int)) (W' := W2) (by go_simp) (Grows.refl _) rfl
        | 10, _ =>
          have h2 : ∃ A' c', us 2 = .slice A' m c' ∧ Lies spL W2 W2.heap.size (.slice A' m c') l := hd 2 (by omega) (by kernel_rfl)
          have h6 : us 6 = .int .i64 M := hd 6 (by omega) (by kernel_rfl)
          have h7 : us 7 = .slice A2 n2 c2 := hd 7 (by omega) (by kernel_rfl)
          have h8 : us 8 = .int .u64 (many : Int) := hd 8 (by omega) (by kernel_rfl)
          have h9 : us 9 = .int .u64 (t : Int) := hd 9 (by omega) (by kernel_rfl)
          clear hd
          obtain ⟨A', c', h2a, h2b⟩ := h2
          refine hop_call rfl rfl rfl (f := 40) (args := #[.slice A' m c', .int .i64 M, .slice A2 n2 c2, .int .u64 (many : Int), .int .u64 (t : Int)]) (by go_simp) ?_
          refine (HPU.out W2 hG A' c' h2b).mono ?_
          rintro e W' ⟨b1, b2, he, _, _, _, o1, o2, hb⟩
          exact ⟨_, he, hb, b1, b2, rfl, own_base o1 hG.size, own_base o2 hG.size⟩
        | d + 11, h => exact absurd h (by omega)
      case htailA =>
        intro us W2 hG hf
        obtain ⟨b1, b2, h11, h12, h13⟩ : ∃ b1 b2 : Nat, us 10 = .tuple #[.slice (some ⟨b1, 0, none⟩) st.length st.length, .slice (some ⟨b2, 0, none⟩) we.length we.length, .int .u64 (lf : Int)] ∧ Own W2 wr.heap.size (.slice (some ⟨b1, 0, none⟩) st.length st.length) st ∧ Own W2 wr.heap.size (.slice (some ⟨b2, 0, none⟩) we.length we.length) we := hf 10 (by omega)
        clear hf
        rw [h11]
        have HG2 := Lib.hid hG
        have H12 := Lib.hid h12
        have H13 := Lib.hid h13
        clear h11 h12 h13 hG
        simp only [List.drop_succ_cons, List.drop_zero]
        repeat (go_big_quiet_step (fail))
        refine wpQuiet_nil ?_
        rintro w' ⟨nq, rfl⟩
        have hbw : Below wr.heap.size wr (W2.drewN nq) := below_drewN HG2.out _
        have hJ2 := HJ.out j wr _ hJs hbw
        have o1 : Own (W2.drewN nq) wr.heap.size (.slice (some ⟨b1, 0, none⟩) st.length st.length) st := H12.out
        have o2 : Own (W2.drewN nq) wr.heap.size (.slice (some ⟨b2, 0, none⟩) we.length we.length) we := H13.out
        obtain ⟨fn, tmps, assign, body, hy, hR⟩ := HY.out j ⟨j, some ⟨b1, 0, none⟩, st.length, st.length⟩ _ hJ2 (pxR HRJ.out HST.out o1 HSZ.out)
        have HBW := Lib.hid hbw
        have O2 := Lib.hid o2
        clear hbw o1 o2 hJ2 HG2 H12 H13
        generalize W2.drewN nq = wy at *
        dsimp only [encY] at hy
        obtain ⟨ns, hns⟩ : ∃ ns, st.length = ns := ⟨_, rfl⟩
        rw [hns] at hy ⊢
        obtain ⟨nw, hnw⟩ : ∃ nw, we.length = nw := ⟨_, rfl⟩
        rw [hnw]
        have HNW := Lib.hid hnw
        clear hns hnw
        gi_wp2
        refine hR.mono ?_
        rintro e W3 (⟨rfl, hJ3, hk3⟩ | ⟨rfl, hJx3⟩)
        · gi_wp2
          go_roundw
          case rel => exact ⟨j + 1, we, lf, some ⟨b2, 0, none⟩, nw, nw, rfl, rfl, by go_num, HNW.out, HRJ.out, HAN.out, own_kt (own_nw (own_base O2.out HSZ2.out) HNW.out) hk3, hJ3, (HKK.out.trans (Kt.of_below HBW.out hsz)).trans hk3⟩
          case measure => simp [intOf]; have := HRJ.out; omega
        · gi_wp2
          refine bodyPost_ret (results_none rfl _ _ _) rfl ?_
          exact ⟨⟨_, rfl⟩, .inr ⟨_, hJx3⟩⟩
    · have hn0' : n2 = 0 := by omega
      by_cases h2 : 0 < many
      · obtain ⟨hRJ, hST, hAN⟩ := HNX.out (.inl fun e => by have := (full_nil.1 e).2; omega)
        have HRJ := Lib.hid hRJ
        have HST := Lib.hid hST
        have HAN := Lib.hid hAN
        have hjj : j < 1000 := by omega
        have g0 : decide (0 < n2) = false := by simp; omega
        clear hRJ hST hAN HNX HDN HN2 hn0'
        have g1 : (0 : Int) < (many : Int) := by omega
        gi_wp2
        refine wpIn_wide.2 ?_
        refine region_facts0 (fr := ?frB) 11 [20, 21, 22, 23, 24, 25, 26, 27, 28, 29, 30] (fun i v W => match i with
            | 0 => v = .agg #[.int .i64 (k : Int), .int .i64 g, .slice A N c]
            | 1 => v = .int .i64 (j : Int)
            | 2 => ∃ A' c', v = .slice A' m c' ∧ Lies spL W W.heap.size (.slice A' m c') l
            | 3 => v = .pointer (some ⟨bH, 0, none⟩)
            | 4 => v = .int .i64 (k : Int)
            | 5 => v = .int .i64 (j : Int)
            | 6 => v = .int .i64 M
            | 7 => v = .slice A2 n2 c2
            | 8 => v = .int .u64 (many : Int)
            | 9 => v = .int .u64 (t : Int)
            | 10 => ∃ b1 b2 : Nat, v = .tuple #[.slice (some ⟨b1, 0, none⟩) st.length st.length, .slice (some ⟨b2, 0, none⟩) we.length we.length, .int .u64 (lf : Int)] ∧ Own W wr.heap.size (.slice (some ⟨b1, 0, none⟩) st.length st.length) st ∧ Own W wr.heap.size (.slice (some ⟨b2, 0, none⟩) we.length we.length) we
            | _ => True) rfl ?hBB (by kernel_rfl) (by kernel_rfl) (by kernel_rfl) ?hfrB ?hFB ?hopB ?htailB
        case hBB => kernel_rfl
        case hfrB =>
          intro us
          simp only [putL]
          go_simp
          rfl
        case hFB =>
          intro i v W W' hG h
          match i with
          | 0 => exact h
          | 1 => exact h
          | 2 => obtain ⟨A', c', h1, h2⟩ := h; exact ⟨A', c', h1, h2.grow hG⟩
          | 3 => exact h
          | 4 => exact h
          | 5 => exact h
          | 6 => exact h
          | 7 => exact h
          | 8 => exact h
          | 9 => exact h
          | 10 => obtain ⟨b1, b2, h1, h2, h3⟩ := h; exact ⟨b1, b2, h1, own_below h2 hG, own_below h3 hG⟩
          | n + 11 => trivial
        case hopB =>
          intro i hi us W2 hG hd
          match i, hi with
          | 0, _ =>
            clear hd
            have q0 := (hG.cell (b := bH) (o := 0) HLH.out).trans H0.out
            have q1 := (hG.cell (b := bH) (o := 1) HLH.out).trans H1.out
            have q2 := (hG.cell (b := bH) (o := 2) HLH.out).trans H2.out
            have hs := Nat.lt_of_lt_of_le HLH.out hG.size
            exact hop_value rfl rfl rfl (v := .agg #[.int .i64 (k : Int), .int .i64 g, .slice A N c]) (W' := W2) (by go_simp) (Grows.refl _) rfl
          | 1, _ =>
            clear hd
            exact hop_value rfl rfl rfl (v := .int .i64 (j : Int)) (W' := W2) (by go_simp) (Grows.refl _) rfl
          | 2, _ =>
            have h0 : us 0 = .agg #[.int .i64 (k : Int), .int .i64 g, .slice A N c] := hd 0 (by omega) (by kernel_rfl)
            have h1 : us 1 = .int .i64 (j : Int) := hd 1 (by omega) (by kernel_rfl)
            clear hd
            refine hop_call rfl rfl rfl (f := 36) (args := #[.agg #[.int .i64 (k : Int), .int .i64 g, .slice A N c], .int .i64 (j : Int)]) (by go_simp) ?_
            refine (HAT.out W2 hG).mono ?_
            rintro e W' ⟨A', c', he, hL, hb⟩
            exact ⟨_, he, hb, A', c', rfl, hL.grow hb⟩
          | 3, _ =>
            clear hd
            exact hop_value rfl rfl rfl (v := .pointer (some ⟨bH, 0, none⟩)) (W' := W2) (by go_simp) (Grows.refl _) rfl
          | 4, _ =>
            have h3 : us 3 = .pointer (some ⟨bH, 0, none⟩) := hd 3 (by omega) (by kernel_rfl)
            clear hd
            have q0 := (hG.cell (b := bH) (o := 0) HLH.out).trans H0.out
            have hs := Nat.lt_of_lt_of_le HLH.out hG.size
            exact hop_value rfl rfl rfl (v := .int .i64 (k : Int)) (W' := W2) (by go_simp) (Grows.refl _) rfl
          | 5, _ =>
            clear hd
            exact hop_value rfl rfl rfl (v := .int .i64 (j : Int)) (W' := W2) (by go_simp) (Grows.refl _) rfl
          | 6, _ =>
            have h4 : us 4 = .int .i64 (k : Int) := hd 4 (by omega) (by kernel_rfl)
            have h5 : us 5 = .int .i64 (j : Int) := hd 5 (by omega) (by kernel_rfl)
            clear hd
            refine hop_call rfl rfl rfl (f := 41) (args := #[.int .i64 (k : Int), .int .i64 (j : Int)]) (by go_simp) ?_
            refine (HM.out W2).mono ?_
            rintro e W' ⟨rfl, rfl⟩
            exact ⟨_, rfl, Grows.refl _, rfl⟩
          | 7, _ =>
            clear hd
            exact hop_value rfl rfl rfl (v := .slice A2 n2 c2) (W' := W2) (by go_simp) (Grows.refl _) rfl
          | 8, _ =>
            clear hd
            exact hop_value rfl rfl rfl (v := .int .u64 (many : Int)) (W' := W2) (by go_simp) (Grows.refl _) rfl
          | 9, _ =>
            clear hd
            have q0 := (hG.cell (b := bT) (o := 0) HLT.out).trans HT0.out
            have hs := Nat.lt_of_lt_of_le HLT.out hG.size
            exact hop_value rfl rfl rfl (v := .int .u64 (t : Int)) (W' := W2) (by go_simp) (Grows.refl _) rfl
          | 10, _ =>
            have h2 : ∃ A' c', us 2 = .slice A' m c' ∧ Lies spL W2 W2.heap.size (.slice A' m c') l := hd 2 (by omega) (by kernel_rfl)
            have h6 : us 6 = .int .i64 M := hd 6 (by omega) (by kernel_rfl)
            have h7 : us 7 = .slice A2 n2 c2 := hd 7 (by omega) (by kernel_rfl)
            have h8 : us 8 = .int .u64 (many : Int) := hd 8 (by omega) (by kernel_rfl)
            have h9 : us 9 = .int .u64 (t : Int) := hd 9 (by omega) (by kernel_rfl)
            clear hd
            obtain ⟨A', c', h2a, h2b⟩ := h2
            refine hop_call rfl rfl rfl (f := 40) (args := #[.slice A' m c', .int .i64 M, .slice A2 n2 c2, .int .u64 (many : Int), .int .u64 (t : Int)]) (by go_simp) ?_
            refine (HPU.out W2 hG A' c' h2b).mono ?_
            rintro e W' ⟨b1, b2, he, _, _, _, o1, o2, hb⟩
            exact ⟨_, he, hb, b1, b2, rfl, own_base o1 hG.size, own_base o2 hG.size⟩
          | d + 11, h => exact absurd h (by omega)
        case htailB =>
          intro us W2 hG hf
          obtain ⟨b1, b2, h11, h12, h13⟩ : ∃ b1 b2 : Nat, us 10 = .tuple #[.slice (some ⟨b1, 0, none⟩) st.length st.length, .slice (some ⟨b2, 0, none⟩) we.length we.length, .int .u64 (lf : Int)] ∧ Own W2 wr.heap.size (.slice (some ⟨b1, 0, none⟩) st.length st.length) st ∧ Own W2 wr.heap.size (.slice (some ⟨b2, 0, none⟩) we.length we.length) we := hf 10 (by omega)
          clear hf
          rw [h11]
          have HG2 := Lib.hid hG
          have H12 := Lib.hid h12
          have H13 := Lib.hid h13
          clear h11 h12 h13 hG
          simp only [List.drop_succ_cons, List.drop_zero]
          repeat (go_big_quiet_step (fail))
          refine wpQuiet_nil ?_
          rintro w' ⟨nq, rfl⟩
          have hbw : Below wr.heap.size wr (W2.drewN nq) := below_drewN HG2.out _
          have hJ2 := HJ.out j wr _ hJs hbw
          have o1 : Own (W2.drewN nq) wr.heap.size (.slice (some ⟨b1, 0, none⟩) st.length st.length) st := H12.out
          have o2 : Own (W2.drewN nq) wr.heap.size (.slice (some ⟨b2, 0, none⟩) we.length we.length) we := H13.out
          obtain ⟨fn, tmps, assign, body, hy, hR⟩ := HY.out j ⟨j, some ⟨b1, 0, none⟩, st.length, st.length⟩ _ hJ2 (pxR HRJ.out HST.out o1 HSZ.out)
          have HBW := Lib.hid hbw
          have O2 := Lib.hid o2
          clear hbw o1 o2 hJ2 HG2 H12 H13
          generalize W2.drewN nq = wy at *
          dsimp only [encY] at hy
          obtain ⟨ns, hns⟩ : ∃ ns, st.length = ns := ⟨_, rfl⟩
          rw [hns] at hy ⊢
          obtain ⟨nw, hnw⟩ : ∃ nw, we.length = nw := ⟨_, rfl⟩
          rw [hnw]
          have HNW := Lib.hid hnw
          clear hns hnw
          gi_wp2
          refine hR.mono ?_
          rintro e W3 (⟨rfl, hJ3, hk3⟩ | ⟨rfl, hJx3⟩)
          · gi_wp2
            go_roundw
            case rel => exact ⟨j + 1, we, lf, some ⟨b2, 0, none⟩, nw, nw, rfl, rfl, by go_num, HNW.out, HRJ.out, HAN.out, own_kt (own_nw (own_base O2.out HSZ2.out) HNW.out) hk3, hJ3, (HKK.out.trans (Kt.of_below HBW.out hsz)).trans hk3⟩
            case measure => simp [intOf]; have := HRJ.out; omega
          · gi_wp2
            refine bodyPost_ret (results_none rfl _ _ _) rfl ?_
            exact ⟨⟨_, rfl⟩, .inr ⟨_, hJx3⟩⟩
      · have hm0 : many = 0 := by omega
        subst hm0 hn0'
        have hd := HDN.out (full_nil.2 ⟨HN2.out, rfl⟩)
        have HD := Lib.hid hd
        clear hd h1 h2 HNX HDN HN2
        gi_wp2
        refine bodyPost_end (results_none rfl _ _ _) rfl ?_
        exact ⟨⟨_, rfl⟩, .inl ⟨j, ⟨HJR.out, HD.out⟩, hJs⟩⟩

theorem reached_in (n : Nat) (k g : Int) (s : Value) (t n0 : Int) (w : World) :
    CallsIn Fence.wide n Try.prog 30 #[hv k g s, .int .u64 t, .int .u64 n0] w fun e w' => e = .returned (.func (.func 39) #[] #[.pointer (some ⟨w.heap.size + 1 + 1, 0, none⟩), .pointer (some ⟨w.heap.size, 0, none⟩), .pointer (some ⟨w.heap.size + 1, 0, none⟩)]) ∧
      w' = ((w.alloc (.cells #[.int .i64 k, .int .i64 g, s] 31)).alloc (.cells #[.int .u64 t] 23)).alloc (.cells #[.int .u64 n0] 23) := by
  refine callsIn_of_wp Try.func30 rfl trivial ?_ rfl
  simp only [Try.ntmps30, List.size_toArray, List.length_cons, List.length_nil, Nat.reduceAdd, Nat.reduceSub, Array.replicate_succ, Array.replicate_zero, List.push_toArray, List.append_toArray, List.nil_append, List.cons_append]
  gi_wp2
  go_ret
  exact ⟨rfl, rfl⟩

end Go.Proofs.Ytafcgfhkeceiaaa
