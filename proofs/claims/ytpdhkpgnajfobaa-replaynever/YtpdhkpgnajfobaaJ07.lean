/- The contract of the function that hist.reached tells: it is ranged over. · The contract of hist.Add. · The contract of hist.Add: the walks. -/
import Derived.Test.YtpdhkpgnajfobaaJ06
import Derived.Test.YtpdhkpgnajfobaaJ05
section
/- The contract of the function that hist.reached tells: it is ranged over. -/
namespace Go.Proofs.Ytpdhkpgnajfobaa
open Go.RowKit Go.Shelf Go.Proofs.Rw Go.Proofs.Lh Go.Proofs.Rn Go.Proofs.Rf
open Go.Proofs.Lm (stay went leftN)

attribute [local go_sem] Oper.semAt_some

/-- What a round keeps: blocks below B, and all cells but those of slices of buckets, and of slices of these. -/
structure Kt (B : Nat) (W W' : World) : Prop where
  size : W.heap.size ≤ W'.heap.size
  block : ∀ b, b < B → W'.heap[b]? = W.heap[b]?
  typed : ∀ (b : Nat) (cs : Array Value) (t : TypeId) (fr : Nat × Nat), W.heap[b]? = some (Obj.cells cs t fr) → t ≠ 75 → t ≠ 27 → W'.heap[b]? = W.heap[b]?
theorem Kt.refl (B : Nat) (W : World) : Kt B W W := ⟨Nat.le_refl _, fun _ _ => rfl, fun _ _ _ _ _ _ _ => rfl⟩
theorem Kt.trans {B : Nat} {X Y Z : World} (h : Kt B X Y) (k : Kt B Y Z) : Kt B X Z :=
  ⟨Nat.le_trans h.size k.size, fun b hb => (k.block b hb).trans (h.block b hb), fun b cs t fr e h1 h2 => (k.typed b cs t fr ((h.typed b cs t fr e h1 h2).trans e) h1 h2).trans (h.typed b cs t fr e h1 h2)⟩
theorem Kt.put {B : Nat} {w : World} (hB : B ≤ w.heap.size) (W : World) (l : Nat) (o o' : Obj) (hl : w.heap.size ≤ l) (ho : W.heap[l]? = some o) (hc : o.isCells = false) : Kt B W (W.putObj l o') := by
  refine ⟨by simp, fun b hb => World.putObj_heap_other (by omega), fun b cs t fr e _ _ => World.putObj_heap_other fun e2 => ?_⟩
  subst e2
  rw [e] at ho
  injection ho with ho
  rw [← ho] at hc
  cases hc
theorem Kt.of_below {B : Nat} {W W' : World} (h : Below W.heap.size W W') (hB : B ≤ W.heap.size) : Kt B W W' := ⟨h.size, fun b hb => h.block b (by omega), fun b _ _ _ e _ _ => h.block b (Array.getElem?_eq_some_iff.1 e).1⟩
theorem own_base {w : World} {base base' : Nat} {v : Value} {xs : List Sp} (h : Own w base v xs) (hb : base' ≤ base) : Own w base' v xs := by
  refine ⟨h.1, ?_⟩
  rcases h.2 with h4 | ⟨g, cap, cur, hv, hg, r⟩
  · exact .inl h4
  · exact .inr ⟨g, cap, cur, hv, by omega, r⟩
theorem own_kt {B : Nat} {w w' : World} {base : Nat} {v : Value} {xs : List Sp} (h : Own w base v xs) (hk : Kt B w w') : Own w' base v xs := by
  refine ⟨h.1, ?_⟩
  rcases h.2 with h4 | ⟨g, cap, cur, hv, hg, hh, r⟩
  · exact .inl h4
  · exact .inr ⟨g, cap, cur, hv, hg, (hk.typed g _ _ _ hh (by decide) (by decide)).trans hh, r⟩
theorem own_nw {w : World} {b n : Nat} {A : Option Addr} {xs : List Sp} (h : Own w b (.slice A xs.length xs.length) xs) (e : xs.length = n) : Own w b (.slice A n n) xs := by
  subst e
  exact h

/-- The round k: the level k as it is then, in new memory. -/
def PxR (N0 : Nat) (R : Lv) (k : Nat) (x : Yl) (W : World) : Prop := k < R.length ∧ x.i = k ∧ x.n = (lev R k).length ∧ (∃ b1, x.A = some ⟨b1, 0, none⟩ ∧ N0 ≤ b1) ∧ Own W N0 (.slice x.A x.n x.c) (lev R k)
theorem PxR.put {N0 : Nat} {R : Lv} {w : World} (k : Nat) (x : Yl) (W : World) (l : Nat) (o o' : Obj) (_ : w.heap.size ≤ l) (ho : W.heap[l]? = some o) (hc : o.isCells = false) (h : PxR N0 R k x W) : PxR N0 R k x (W.putObj l o') :=
  ⟨h.1, h.2.1, h.2.2.1, h.2.2.2.1, ownsRow_putObj h.2.2.2.2 o' ho hc⟩
theorem pxR {N0 j b1 : Nat} {R : Lv} {st : List Sp} {wr wy : World} (hj : j < R.length) (hst : st = lev R j) (o1 : Own wy wr.heap.size (.slice (some ⟨b1, 0, none⟩) st.length st.length) st) (hz : N0 ≤ wr.heap.size) : PxR N0 R j ⟨j, some ⟨b1, 0, none⟩, st.length, st.length⟩ wy := by
  subst hst
  exact ⟨hj, rfl, rfl, ⟨b1, rfl, Nat.le_trans hz (o1.lt b1 rfl).1⟩, own_base o1 hz⟩

theorem room_rm (k j : Nat) : roomOf (leastI k j + 1) = rm k j := by
  unfold roomOf leastI rm
  by_cases h : j = 0
  · subst h
    simp
    omega
  · rw [if_neg h, if_neg (by omega)]
    omega
theorem least_small (k j : Nat) (hk : k ≤ 1024) : leastI k j + 1 ≤ 1000000 := by
  unfold leastI
  split <;> omega

set_option maxRecDepth 100000 in
set_option maxHeartbeats 4000000 in
theorem reach1_in (n : Nat) (hn : 1 ≤ n) (B bW bH bT k : Nat) (g : Int) (ls R : Lv) (t n0 : Nat) (hmd : Made k ls) (hn0 : n0 ≤ 4503599627370496) (hR : R = addW k ls t n0) (hRl : R.length ≤ 1000) (w : World) (hB : B ≤ w.heap.size) (A : Option Addr) (c : Nat) (h : Levs w B (.slice A ls.length c) ls)
    (hbW : w.heap[bW]? = some (.cells #[.int .u64 n0] 41)) (hbH : w.heap[bH]? = some (.cells #[.int .i64 (k : Int), .int .i64 g, .slice A ls.length c] 32)) (hbT : w.heap[bT]? = some (.cells #[.int .u64 t] 41)) :
    SeqN Fence.wide n Try.prog 87 #[.pointer (some ⟨bW, 0, none⟩), .pointer (some ⟨bH, 0, none⟩), .pointer (some ⟨bT, 0, none⟩)] encY (PxR w.heap.size R) (Kt B) (fun m => m ≤ R.length ∧ R.drop m = ls.drop m) w := by
  intro yl J Jx W hW hJ hJx hY hJ0
  have hat0 : At k ls t R 0 [] n0 := hR ▸ At.start k ls t n0 hn0
  have hL := h.below (hW.mono hB)
  have c0 : W.cell? ⟨bW, 0, none⟩ = some (.int .u64 n0) := (box1 ((hW.block bW (lt_of hbW)).trans hbW)).1
  have hwl : bW < W.heap.size := Nat.lt_of_lt_of_le (lt_of hbW) hW.size
  have hbH2 := (hW.block bH (lt_of hbH)).trans hbH
  have hbT2 := (hW.block bT (lt_of hbT)).trans hbT
  have HBH := Lib.hid hbH2
  have HBT := Lib.hid hbT2
  have HMD := Lib.hid hmd
  have HA0 := Lib.hid hat0
  have HJ := Lib.hid hJ
  have HY := Lib.hid hY
  have HL := Lib.hid hL
  have HW := Lib.hid hW
  obtain ⟨N, hN⟩ : ∃ N, ls.length = N := ⟨_, rfl⟩
  rw [hN] at HBH HL
  have HN := Lib.hid hN
  clear hJ hJx hY h hL hbW hbH hbT hbH2 hbT2 hN hW hR hmd hat0
  refine callsIn_of_wp Try.func87 rfl trivial ?_ rfl
  simp only [Try.ntmps87, List.size_toArray, List.length_cons, List.length_nil, Nat.reduceAdd, Nat.reduceSub, Array.replicate_succ, Array.replicate_zero, List.push_toArray, List.append_toArray, List.nil_append, List.cons_append]
  gi_wp2
  gi_loopw [5, 6, 7, 8] (fun _ s6 s7 s8 wr => ∃ (j : Nat) (come : List Sp) (many : Nat) (A2 : Option Addr) (n2 c2 : Nat), s6 = .slice A2 n2 c2 ∧ s7 = .int .u64 (many : Int) ∧ s8 = .int .i64 (j : Int) ∧ come.length = n2 ∧ j ≤ R.length ∧ At k ls t R j come many ∧ Own wr W.heap.size (.slice A2 n2 c2) come ∧ J j wr ∧ Kt B W wr) (fun _ _ _ s8 _ => R.length - (intOf s8).toNat)
  case atStart => exact ⟨0, [], n0, none, 0, 0, rfl, rfl, rfl, rfl, Nat.zero_le _, HA0.out, World.ownsRow_nil _ _ _ _, hJ0, Kt.refl _ _⟩
  case round =>
    obtain ⟨j, come, many, A2, n2, c2, rfl, rfl, rfl, hn2, hjR, hAt, hown, hJs, hK⟩ := hrel
    have hsz : B ≤ wr.heap.size := Nat.le_trans hB (Nat.le_trans HW.out.size hK.size)
    have hLr : Levs wr B (.slice A N c) ls := HL.out.keep hK.block
    have pH := (hK.typed bH _ _ _ HBH.out (by decide) (by decide)).trans HBH.out
    have pT := (hK.typed bT _ _ _ HBT.out (by decide) (by decide)).trans HBT.out
    obtain ⟨x0, x1, x2⟩ := box3 pH
    have x3 := (box1 pT).1
    have H0 := Lib.hid x0
    have H1 := Lib.hid x1
    have H2 := Lib.hid x2
    have HT0 := Lib.hid x3
    have HLH := Lib.hid (lt_of pH)
    have HLT := Lib.hid (lt_of pT)
    have HSZ := Lib.hid (Nat.le_trans HW.out.size hK.size)
    have HSZ2 := Lib.hid hK.size
    have hmost := hAt.most
    have hfew := hAt.few
    have hlj := HMD.out.lev j
    obtain ⟨l, hl⟩ : ∃ l, lev ls j = l := ⟨_, rfl⟩
    rw [hl] at hlj
    obtain ⟨m, hm⟩ : ∃ m, l.length = m := ⟨_, rfl⟩
    obtain ⟨M, hM⟩ : ∃ M, leastI k j + 1 = M := ⟨_, rfl⟩
    have hk1 := HMD.out.k1
    have hM2 : M ≤ 1000000 := by have := least_small k j hk1; omega
    have hat : ∀ W2, Grows wr W2 → Calls Try.prog 64 #[.agg #[.int .i64 (k : Int), .int .i64 g, .slice A N c], .int .i64 (j : Int)] W2 fun e w' => ∃ A' c', e = .returned (.slice A' m c') ∧ Lies spL W2 W2.heap.size (.slice A' m c') l ∧ Below W2.heap.size W2 w' := by
      intro W2 hG
      have hg : Below wr.heap.size wr W2 := hG
      have := at_any k g ls j W2 B (Nat.le_trans hsz hg.size) A c (by rw [HN.out]; exact hLr.below (hg.mono hsz))
      rw [hl, hm, HN.out] at this
      refine this.mono ?_
      rintro e w' ⟨A', c', he, hL, hb⟩
      exact ⟨A', c', he, hL.mono (Nat.le_trans hsz hg.size), hb⟩
    have hmo : ∀ W2, Calls Try.prog 89 #[.int .i64 (k : Int), .int .i64 (j : Int)] W2 fun e w' => e = .returned (.int .i64 M) ∧ W2 = w' := by
      intro W2
      rw [← hM]
      exact most_any k j (by omega) W2
    obtain ⟨st, hst⟩ : ∃ st, stay (l ++ come) t many (rm k j) = st := ⟨_, rfl⟩
    obtain ⟨we, hwe⟩ : ∃ we, went (l ++ come) t many (rm k j) = we := ⟨_, rfl⟩
    obtain ⟨lf, hlf⟩ : ∃ lf, leftN (l ++ come).length many (rm k j) = lf := ⟨_, rfl⟩
    have hpu : ∀ W2, Grows wr W2 → ∀ A' c', Lies spL W2 W2.heap.size (.slice A' m c') l → Calls Try.prog 88 #[.slice A' m c', .int .i64 M, .slice A2 n2 c2, .int .u64 (many : Int), .int .u64 (t : Int)] W2 fun e w' => Pushed W2 w' e st we lf := by
      intro W2 hG A' c' hLl
      have hg : Below wr.heap.size wr W2 := hG
      have hLc : Lies spL W2 W2.heap.size (.slice A2 n2 c2) come := by
        have := Lies.of_own (L := spL) hown
        exact this.grow hg
      have := push_any l come M many t (by omega) hM2 (by omega) W2 W2.heap.size A' A2 c' c2 (by rw [hm]; exact hLl) (by rw [hn2]; exact hLc) (Nat.le_refl _)
      rw [← hM, room_rm, hst, hwe, hlf, hm, hn2, hM] at this
      exact this
    have hnext : full come t many ≠ [] ∨ j < ls.length → j < R.length ∧ st = lev R j ∧ At k ls t R (j + 1) we lf := by
      intro hgo
      obtain ⟨a1, a2, a3⟩ := hAt.next (by rw [hl]; omega) hgo
      rw [hl, hst] at a2
      rw [hl, hwe, hlf] at a3
      exact ⟨a1, a2.symm, a3⟩
    have hdone : full come t many = [] → R.drop j = ls.drop j := fun hz => hAt.done HMD.out.few hz
    have HAT := Lib.hid hat
    have HM := Lib.hid hmo
    have HPU := Lib.hid hpu
    have HNX := Lib.hid hnext
    have HDN := Lib.hid hdone
    have HN2 := Lib.hid hn2
    have HKK := Lib.hid hK
    have HJR := Lib.hid hjR
    clear hat hmo hpu hnext hdone hAt hown pH pT x0 x1 x2 x3 hLr hst hwe hlf hM hl hm c0 hwl hJ0 hK hlj hk1 hM2 hn2 hjR
    by_cases h1 : 0 < n2
    · obtain ⟨hRJ, hST, hAN⟩ := HNX.out (.inl fun e => by have := (full_nil.1 e).1; have := HN2.out; omega)
      have HRJ := Lib.hid hRJ
      have HST := Lib.hid hST
      have HAN := Lib.hid hAN
      have hjj : j < 1000 := by omega
      clear hRJ hST hAN HNX HDN HN2
      have g1 : (0 : Int) < (n2 : Int) := by omega
      gi_wp2
      refine wpIn_wide.2 ?_
      refine region_facts0 (fr := ?frA) 11 [20, 21, 22, 23, 24, 25, 26, 27, 28, 29, 30] (fun i v W => match i with
          | 0 => v = .agg #[.int .i64 (k : Int), .int .i64 g, .slice A N c]
          | 1 => v = .int .i64 (j : Int)
          | 2 => ∃ A' c', v = .slice A' m c' ∧ Lies spL W W.heap.size (.slice A' m c') l
          | 3 => v = .pointer (some ⟨bH, 0, none⟩)
          | 4 => v = .int .i64 (k : Int)
          | 5 => v = .int .i64 (j : Int)
          | 6 => v = .int .i64 M
          | 7 => v = .slice A2 n2 c2
          | 8 => v = .int .u64 (many : Int)
          | 9 => v = .int .u64 (t : Int)
          | 10 => ∃ b1 b2 : Nat, v = .tuple #[.slice (some ⟨b1, 0, none⟩) st.length st.length, .slice (some ⟨b2, 0, none⟩) we.length we.length, .int .u64 (lf : Int)] ∧ Own W wr.heap.size (.slice (some ⟨b1, 0, none⟩) st.length st.length) st ∧ Own W wr.heap.size (.slice (some ⟨b2, 0, none⟩) we.length we.length) we
          | _ => True) rfl ?hBA (by kernel_rfl) (by kernel_rfl) (by kernel_rfl) ?hfrA ?hFA ?hopA ?htailA
      case hBA => kernel_rfl
      case hfrA =>
        intro us
        simp only [putL]
        go_simp
        rfl
      case hFA =>
        intro i v W W' hG h
        match i with
        | 0 => exact h
        | 1 => exact h
        | 2 => obtain ⟨A', c', h1, h2⟩ := h; exact ⟨A', c', h1, h2.grow hG⟩
        | 3 => exact h
        | 4 => exact h
        | 5 => exact h
        | 6 => exact h
        | 7 => exact h
        | 8 => exact h
        | 9 => exact h
        | 10 => obtain ⟨b1, b2, h1, h2, h3⟩ := h; exact ⟨b1, b2, h1, own_below h2 hG, own_below h3 hG⟩
        | n + 11 => trivial
      case hopA =>
        intro i hi us W2 hG hd
        match i, hi with
        | 0, _ =>
          clear hd
          have q0 := (hG.cell (b := bH) (o := 0) HLH.out).trans H0.out
          have q1 := (hG.cell (b := bH) (o := 1) HLH.out).trans H1.out
          have q2 := (hG.cell (b := bH) (o := 2) HLH.out).trans H2.out
          have hs := Nat.lt_of_lt_of_le HLH.out hG.size
          exact hop_value rfl rfl rfl (v := .agg #[.int .i64 (k : Int), .int .i64 g, .slice A N c]) (W' := W2) (by go_simp) (Grows.refl _) rfl
        | 1, _ =>
          clear hd
          exact hop_value rfl rfl rfl (v := .int .i64 (j : Int)) (W' := W2) (by go_simp) (Grows.refl _) rfl
        | 2, _ =>
          have h0 : us 0 = .agg #[.int .i64 (k : Int), .int .i64 g, .slice A N c] := hd 0 (by omega) (by kernel_rfl)
          have h1 : us 1 = .int .i64 (j : Int) := hd 1 (by omega) (by kernel_rfl)
          clear hd
          refine hop_call rfl rfl rfl (f := 64) (args := #[.agg #[.int .i64 (k : Int), .int .i64 g, .slice A N c], .int .i64 (j : Int)]) (by go_simp) ?_
          refine (HAT.out W2 hG).mono ?_
          rintro e W' ⟨A', c', he, hL, hb⟩
          exact ⟨_, he, hb, A', c', rfl, hL.grow hb⟩
        | 3, _ =>
          clear hd
          exact hop_value rfl rfl rfl (v := .pointer (some ⟨bH, 0, none⟩)) (W' := W2) (by go_simp) (Grows.refl _) rfl
        | 4, _ =>
          have h3 : us 3 = .pointer (some ⟨bH, 0, none⟩) := hd 3 (by omega) (by kernel_rfl)
          clear hd
          have q0 := (hG.cell (b := bH) (o := 0) HLH.out).trans H0.out
          have hs := Nat.lt_of_lt_of_le HLH.out hG.size
          exact hop_value rfl rfl rfl (v := .int .i64 (k : Int)) (W' := W2) (by go_simp) (Grows.refl _) rfl
        | 5, _ =>
          clear hd
          exact hop_value rfl rfl rfl (v := .int .i64 (j : Int)) (W' := W2) (by go_simp) (Grows.refl _) rfl
        | 6, _ =>
          have h4 : us 4 = .int .i64 (k : Int) := hd 4 (by omega) (by kernel_rfl)
          have h5 : us 5 = .int .i64 (j : Int) := hd 5 (by omega) (by kernel_rfl)
          clear hd
          refine hop_call rfl rfl rfl (f := 89) (args := #[.int .i64 (k : Int), .int .i64 (j : Int)]) (by go_simp) ?_
          refine (HM.out W2).mono ?_
          rintro e W' ⟨rfl, rfl⟩
          exact ⟨_, rfl, Grows.refl _, rfl⟩
        | 7, _ =>
          clear hd
          exact hop_value rfl rfl rfl (v := .slice A2 n2 c2) (W' := W2) (by go_simp) (Grows.refl _) rfl
        | 8, _ =>
          clear hd
          exact hop_value rfl rfl rfl (v := .int .u64 (many : Int)) (W' := W2) (by go_simp) (Grows.refl _) rfl
        | 9, _ =>
          clear hd
          have q0 := (hG.cell (b := bT) (o := 0) HLT.out).trans HT0.out
          have hs := Nat.lt_of_lt_of_le HLT.out hG.size
          exact hop_value rfl rfl rfl (v := .int .u64 (t : Int)) (W' := W2) (by go_simp) (Grows.refl _) rfl
        | 10, _ =>
          have h2 : ∃ A' c', us 2 = .slice A' m c' ∧ Lies spL W2 W2.heap.size (.slice A' m c') l := hd 2 (by omega) (by kernel_rfl)
          have h6 : us 6 = .int .i64 M := hd 6 (by omega) (by kernel_rfl)
          have h7 : us 7 = .slice A2 n2 c2 := hd 7 (by omega) (by kernel_rfl)
          have h8 : us 8 = .int .u64 (many : Int) := hd 8 (by omega) (by kernel_rfl)
          have h9 : us 9 = .int .u64 (t : Int) := hd 9 (by omega) (by kernel_rfl)
          clear hd
          obtain ⟨A', c', h2a, h2b⟩ := h2
          refine hop_call rfl rfl rfl (f := 88) (args := #[.slice A' m c', .int .i64 M, .slice A2 n2 c2, .int .u64 (many : Int), .int .u64 (t : Int)]) (by go_simp) ?_
          refine (HPU.out W2 hG A' c' h2b).mono ?_
          rintro e W' ⟨b1, b2, he, _, _, _, o1, o2, hb⟩
          exact ⟨_, he, hb, b1, b2, rfl, own_base o1 hG.size, own_base o2 hG.size⟩
        | d + 11, h => exact absurd h (by omega)
      case htailA =>
        intro us W2 hG hf
        obtain ⟨b1, b2, h11, h12, h13⟩ : ∃ b1 b2 : Nat, us 10 = .tuple #[.slice (some ⟨b1, 0, none⟩) st.length st.length, .slice (some ⟨b2, 0, none⟩) we.length we.length, .int .u64 (lf : Int)] ∧ Own W2 wr.heap.size (.slice (some ⟨b1, 0, none⟩) st.length st.length) st ∧ Own W2 wr.heap.size (.slice (some ⟨b2, 0, none⟩) we.length we.length) we := hf 10 (by omega)
        clear hf
        rw [h11]
        have HG2 := Lib.hid hG
        have H12 := Lib.hid h12
        have H13 := Lib.hid h13
        clear h11 h12 h13 hG
        simp only [List.drop_succ_cons, List.drop_zero]
        repeat (go_big_quiet_step (fail))
        refine wpQuiet_nil ?_
        rintro w' ⟨nq, rfl⟩
        have hbw : Below wr.heap.size wr (W2.drewN nq) := below_drewN HG2.out _
        have hJ2 := HJ.out j wr _ hJs hbw
        have o1 : Own (W2.drewN nq) wr.heap.size (.slice (some ⟨b1, 0, none⟩) st.length st.length) st := H12.out
        have o2 : Own (W2.drewN nq) wr.heap.size (.slice (some ⟨b2, 0, none⟩) we.length we.length) we := H13.out
        obtain ⟨fn, tmps, assign, body, hy, hR⟩ := HY.out j ⟨j, some ⟨b1, 0, none⟩, st.length, st.length⟩ _ hJ2 (pxR HRJ.out HST.out o1 HSZ.out)
        have HBW := Lib.hid hbw
        have O2 := Lib.hid o2
        clear hbw o1 o2 hJ2 HG2 H12 H13
        generalize W2.drewN nq = wy at *
        dsimp only [encY] at hy
        obtain ⟨ns, hns⟩ : ∃ ns, st.length = ns := ⟨_, rfl⟩
        rw [hns] at hy ⊢
        obtain ⟨nw, hnw⟩ : ∃ nw, we.length = nw := ⟨_, rfl⟩
        rw [hnw]
        have HNW := Lib.hid hnw
        clear hns hnw
        gi_wp2
        refine hR.mono ?_
        rintro e W3 (⟨rfl, hJ3, hk3⟩ | ⟨rfl, hJx3⟩)
        · gi_wp2
          go_roundw
          case rel => exact ⟨j + 1, we, lf, some ⟨b2, 0, none⟩, nw, nw, rfl, rfl, by go_num, HNW.out, HRJ.out, HAN.out, own_kt (own_nw (own_base O2.out HSZ2.out) HNW.out) hk3, hJ3, (HKK.out.trans (Kt.of_below HBW.out hsz)).trans hk3⟩
          case measure => simp [intOf]; have := HRJ.out; omega
        · gi_wp2
          refine bodyPost_ret (results_none rfl _ _ _) rfl ?_
          exact ⟨⟨_, rfl⟩, .inr ⟨_, hJx3⟩⟩
    · have hn0' : n2 = 0 := by omega
      by_cases h2 : 0 < many
      · obtain ⟨hRJ, hST, hAN⟩ := HNX.out (.inl fun e => by have := (full_nil.1 e).2; omega)
        have HRJ := Lib.hid hRJ
        have HST := Lib.hid hST
        have HAN := Lib.hid hAN
        have hjj : j < 1000 := by omega
        have g0 : decide (0 < n2) = false := by simp; omega
        clear hRJ hST hAN HNX HDN HN2 hn0'
        have g1 : (0 : Int) < (many : Int) := by omega
        gi_wp2
        refine wpIn_wide.2 ?_
        refine region_facts0 (fr := ?frB) 11 [20, 21, 22, 23, 24, 25, 26, 27, 28, 29, 30] (fun i v W => match i with
            | 0 => v = .agg #[.int .i64 (k : Int), .int .i64 g, .slice A N c]
            | 1 => v = .int .i64 (j : Int)
            | 2 => ∃ A' c', v = .slice A' m c' ∧ Lies spL W W.heap.size (.slice A' m c') l
            | 3 => v = .pointer (some ⟨bH, 0, none⟩)
            | 4 => v = .int .i64 (k : Int)
            | 5 => v = .int .i64 (j : Int)
            | 6 => v = .int .i64 M
            | 7 => v = .slice A2 n2 c2
            | 8 => v = .int .u64 (many : Int)
            | 9 => v = .int .u64 (t : Int)
            | 10 => ∃ b1 b2 : Nat, v = .tuple #[.slice (some ⟨b1, 0, none⟩) st.length st.length, .slice (some ⟨b2, 0, none⟩) we.length we.length, .int .u64 (lf : Int)] ∧ Own W wr.heap.size (.slice (some ⟨b1, 0, none⟩) st.length st.length) st ∧ Own W wr.heap.size (.slice (some ⟨b2, 0, none⟩) we.length we.length) we
            | _ => True) rfl ?hBB (by kernel_rfl) (by kernel_rfl) (by kernel_rfl) ?hfrB ?hFB ?hopB ?htailB
        case hBB => kernel_rfl
        case hfrB =>
          intro us
          simp only [putL]
          go_simp
          rfl
        case hFB =>
          intro i v W W' hG h
          match i with
          | 0 => exact h
          | 1 => exact h
          | 2 => obtain ⟨A', c', h1, h2⟩ := h; exact ⟨A', c', h1, h2.grow hG⟩
          | 3 => exact h
          | 4 => exact h
          | 5 => exact h
          | 6 => exact h
          | 7 => exact h
          | 8 => exact h
          | 9 => exact h
          | 10 => obtain ⟨b1, b2, h1, h2, h3⟩ := h; exact ⟨b1, b2, h1, own_below h2 hG, own_below h3 hG⟩
          | n + 11 => trivial
        case hopB =>
          intro i hi us W2 hG hd
          match i, hi with
          | 0, _ =>
            clear hd
            have q0 := (hG.cell (b := bH) (o := 0) HLH.out).trans H0.out
            have q1 := (hG.cell (b := bH) (o := 1) HLH.out).trans H1.out
            have q2 := (hG.cell (b := bH) (o := 2) HLH.out).trans H2.out
            have hs := Nat.lt_of_lt_of_le HLH.out hG.size
            exact hop_value rfl rfl rfl (v := .agg #[.int .i64 (k : Int), .int .i64 g, .slice A N c]) (W' := W2) (by go_simp) (Grows.refl _) rfl
          | 1, _ =>
            clear hd
            exact hop_value rfl rfl rfl (v := .int .i64 (j : Int)) (W' := W2) (by go_simp) (Grows.refl _) rfl
          | 2, _ =>
            have h0 : us 0 = .agg #[.int .i64 (k : Int), .int .i64 g, .slice A N c] := hd 0 (by omega) (by kernel_rfl)
            have h1 : us 1 = .int .i64 (j : Int) := hd 1 (by omega) (by kernel_rfl)
            clear hd
            refine hop_call rfl rfl rfl (f := 64) (args := #[.agg #[.int .i64 (k : Int), .int .i64 g, .slice A N c], .int .i64 (j : Int)]) (by go_simp) ?_
            refine (HAT.out W2 hG).mono ?_
            rintro e W' ⟨A', c', he, hL, hb⟩
            exact ⟨_, he, hb, A', c', rfl, hL.grow hb⟩
          | 3, _ =>
            clear hd
            exact hop_value rfl rfl rfl (v := .pointer (some ⟨bH, 0, none⟩)) (W' := W2) (by go_simp) (Grows.refl _) rfl
          | 4, _ =>
            have h3 : us 3 = .pointer (some ⟨bH, 0, none⟩) := hd 3 (by omega) (by kernel_rfl)
            clear hd
            have q0 := (hG.cell (b := bH) (o := 0) HLH.out).trans H0.out
            have hs := Nat.lt_of_lt_of_le HLH.out hG.size
            exact hop_value rfl rfl rfl (v := .int .i64 (k : Int)) (W' := W2) (by go_simp) (Grows.refl _) rfl
          | 5, _ =>
            clear hd
            exact hop_value rfl rfl rfl (v := .int .i64 (j : Int)) (W' := W2) (by go_simp) (Grows.refl _) rfl
          | 6, _ =>
            have h4 : us 4 = .int .i64 (k : Int) := hd 4 (by omega) (by kernel_rfl)
            have h5 : us 5 = .int .i64 (j : Int) := hd 5 (by omega) (by kernel_rfl)
            clear hd
            refine hop_call rfl rfl rfl (f := 89) (args := #[.int .i64 (k : Int), .int .i64 (j : Int)]) (by go_simp) ?_
            refine (HM.out W2).mono ?_
            rintro e W' ⟨rfl, rfl⟩
            exact ⟨_, rfl, Grows.refl _, rfl⟩
          | 7, _ =>
            clear hd
            exact hop_value rfl rfl rfl (v := .slice A2 n2 c2) (W' := W2) (by go_simp) (Grows.refl _) rfl
          | 8, _ =>
            clear hd
            exact hop_value rfl rfl rfl (v := .int .u64 (many : Int)) (W' := W2) (by go_simp) (Grows.refl _) rfl
          | 9, _ =>
            clear hd
            have q0 := (hG.cell (b := bT) (o := 0) HLT.out).trans HT0.out
            have hs := Nat.lt_of_lt_of_le HLT.out hG.size
            exact hop_value rfl rfl rfl (v := .int .u64 (t : Int)) (W' := W2) (by go_simp) (Grows.refl _) rfl
          | 10, _ =>
            have h2 : ∃ A' c', us 2 = .slice A' m c' ∧ Lies spL W2 W2.heap.size (.slice A' m c') l := hd 2 (by omega) (by kernel_rfl)
            have h6 : us 6 = .int .i64 M := hd 6 (by omega) (by kernel_rfl)
            have h7 : us 7 = .slice A2 n2 c2 := hd 7 (by omega) (by kernel_rfl)
            have h8 : us 8 = .int .u64 (many : Int) := hd 8 (by omega) (by kernel_rfl)
            have h9 : us 9 = .int .u64 (t : Int) := hd 9 (by omega) (by kernel_rfl)
            clear hd
            obtain ⟨A', c', h2a, h2b⟩ := h2
            refine hop_call rfl rfl rfl (f := 88) (args := #[.slice A' m c', .int .i64 M, .slice A2 n2 c2, .int .u64 (many : Int), .int .u64 (t : Int)]) (by go_simp) ?_
            refine (HPU.out W2 hG A' c' h2b).mono ?_
            rintro e W' ⟨b1, b2, he, _, _, _, o1, o2, hb⟩
            exact ⟨_, he, hb, b1, b2, rfl, own_base o1 hG.size, own_base o2 hG.size⟩
          | d + 11, h => exact absurd h (by omega)
        case htailB =>
          intro us W2 hG hf
          obtain ⟨b1, b2, h11, h12, h13⟩ : ∃ b1 b2 : Nat, us 10 = .tuple #[.slice (some ⟨b1, 0, none⟩) st.length st.length, .slice (some ⟨b2, 0, none⟩) we.length we.length, .int .u64 (lf : Int)] ∧ Own W2 wr.heap.size (.slice (some ⟨b1, 0, none⟩) st.length st.length) st ∧ Own W2 wr.heap.size (.slice (some ⟨b2, 0, none⟩) we.length we.length) we := hf 10 (by omega)
          clear hf
          rw [h11]
          have HG2 := Lib.hid hG
          have H12 := Lib.hid h12
          have H13 := Lib.hid h13
          clear h11 h12 h13 hG
          simp only [List.drop_succ_cons, List.drop_zero]
          repeat (go_big_quiet_step (fail))
          refine wpQuiet_nil ?_
          rintro w' ⟨nq, rfl⟩
          have hbw : Below wr.heap.size wr (W2.drewN nq) := below_drewN HG2.out _
          have hJ2 := HJ.out j wr _ hJs hbw
          have o1 : Own (W2.drewN nq) wr.heap.size (.slice (some ⟨b1, 0, none⟩) st.length st.length) st := H12.out
          have o2 : Own (W2.drewN nq) wr.heap.size (.slice (some ⟨b2, 0, none⟩) we.length we.length) we := H13.out
          obtain ⟨fn, tmps, assign, body, hy, hR⟩ := HY.out j ⟨j, some ⟨b1, 0, none⟩, st.length, st.length⟩ _ hJ2 (pxR HRJ.out HST.out o1 HSZ.out)
          have HBW := Lib.hid hbw
          have O2 := Lib.hid o2
          clear hbw o1 o2 hJ2 HG2 H12 H13
          generalize W2.drewN nq = wy at *
          dsimp only [encY] at hy
          obtain ⟨ns, hns⟩ : ∃ ns, st.length = ns := ⟨_, rfl⟩
          rw [hns] at hy ⊢
          obtain ⟨nw, hnw⟩ : ∃ nw, we.length = nw := ⟨_, rfl⟩
          rw [hnw]
          have HNW := Lib.hid hnw
          clear hns hnw
          gi_wp2
          refine hR.mono ?_
          rintro e W3 (⟨rfl, hJ3, hk3⟩ | ⟨rfl, hJx3⟩)
          · gi_wp2
            go_roundw
            case rel => exact ⟨j + 1, we, lf, some ⟨b2, 0, none⟩, nw, nw, rfl, rfl, by go_num, HNW.out, HRJ.out, HAN.out, own_kt (own_nw (own_base O2.out HSZ2.out) HNW.out) hk3, hJ3, (HKK.out.trans (Kt.of_below HBW.out hsz)).trans hk3⟩
            case measure => simp [intOf]; have := HRJ.out; omega
          · gi_wp2
            refine bodyPost_ret (results_none rfl _ _ _) rfl ?_
            exact ⟨⟨_, rfl⟩, .inr ⟨_, hJx3⟩⟩
      · have hm0 : many = 0 := by omega
        subst hm0 hn0'
        have hd := HDN.out (full_nil.2 ⟨HN2.out, rfl⟩)
        have HD := Lib.hid hd
        clear hd h1 h2 HNX HDN HN2
        gi_wp2
        refine bodyPost_end (results_none rfl _ _ _) rfl ?_
        exact ⟨⟨_, rfl⟩, .inl ⟨j, ⟨HJR.out, HD.out⟩, hJs⟩⟩

theorem reached_in (n : Nat) (k g : Int) (s : Value) (t n0 : Int) (w : World) :
    CallsIn Fence.wide n Try.prog 57 #[hv k g s, .int .u64 t, .int .u64 n0] w fun e w' => e = .returned (.func (.func 87) #[] #[.pointer (some ⟨w.heap.size + 1 + 1, 0, none⟩), .pointer (some ⟨w.heap.size, 0, none⟩), .pointer (some ⟨w.heap.size + 1, 0, none⟩)]) ∧
      w' = ((w.alloc (.cells #[.int .i64 k, .int .i64 g, s] 32)).alloc (.cells #[.int .u64 t] 41)).alloc (.cells #[.int .u64 n0] 41) := by
  refine callsIn_of_wp Try.func57 rfl trivial ?_ rfl
  simp only [Try.ntmps57, List.size_toArray, List.length_cons, List.length_nil, Nat.reduceAdd, Nat.reduceSub, Array.replicate_succ, Array.replicate_zero, List.push_toArray, List.append_toArray, List.nil_append, List.cons_append]
  gi_wp2
  go_ret
  exact ⟨rfl, rfl⟩

end Go.Proofs.Ytpdhkpgnajfobaa
end
section
/- The contract of hist.Add. -/
namespace Go.Proofs.Ytpdhkpgnajfobaa
open Go.RowKit Go.Shelf Go.Proofs.Rw Go.Proofs.Lh Go.Proofs.Rn

attribute [local go_sem] Oper.semAt_some

theorem cell_cells {w : World} {a : Addr} {v : Value} (h : w.cell? a = some v) : ∃ o : Obj, w.heap[a.block]? = some o ∧ o.isCells = true := by
  unfold World.cell? at h
  cases ho : w.heap[a.block]? with
  | none => simp [ho] at h
  | some o => exact ⟨o, rfl, by cases o <;> simp_all [Obj.isCells]⟩
/-- What isn't cells is written. -/
theorem lies_other {w w' : World} {v : Value} {xs : List Sp} {row : Option Nat} (h : Lies spL w w.heap.size v xs) (hg : w.grownBy w' row) (hr : ∀ r, row = some r → ∃ o : Obj, w.heap[r]? = some o ∧ o.isCells = false) : Lies spL w' w'.heap.size v xs := by
  refine h.off2 hg fun hn b hb e => ?_
  obtain ⟨A, cap, rfl, _, _, h6⟩ := h
  rcases h6 with h6 | ⟨b', off, hb', rfl, hc⟩
  · exact hn h6
  · injection hb with hb
    have hb2 : b' = b := hb
    subst hb2
    cases xs with
    | nil => exact hn rfl
    | cons x xs =>
      obtain ⟨o, ho, hcl⟩ := cell_cells (hc 0 (.int .u64 x.1) rfl)
      obtain ⟨o', ho', hcl'⟩ := hr b' e.symm
      have ho2 : w.heap[b']? = some o := ho
      rw [ho2] at ho'
      injection ho' with ho'
      rw [ho', hcl'] at hcl
      cases hcl
theorem levs_other {T : TypeId} {Z : Nat → Prop} {w w' : World} {base : Nat} {v : Value} {ls : Lv} {row : Option Nat} (h : OwnLevs T Z w base v ls) (hg : w.grownBy w' row) (hr : ∀ r, row = some r → ∃ o : Obj, w.heap[r]? = some o ∧ o.isCells = false) : OwnLevs T Z w' base v ls := by
  obtain ⟨vs, h1, h2, h3⟩ := h
  refine ⟨vs, h1.kept hg ?_, h2, fun i u l hu hl => ⟨lies_other (h3 i u l hu hl).1 hg hr, fun hn b hb => ?_⟩⟩
  · rcases h1.2 with ⟨rfl, _⟩ | ⟨g, cap, cur, rfl, _, hgb, _⟩
    · exact .inl rfl
    · refine .inr fun e => ?_
      obtain ⟨o, ho, hc⟩ := hr g (by simpa [Value.ownBlock] using e.symm)
      rw [hgb] at ho
      injection ho with ho
      rw [← ho] at hc
      cases hc
  · obtain ⟨a1, a2, a3⟩ := (h3 i u l hu hl).2 hn b hb
    refine ⟨a1, a2, a3.keep (hg.block b a3.lt fun e => ?_)⟩
    obtain ⟨cs, fr, h5⟩ := a3
    obtain ⟨o, ho, hc⟩ := hr b e.symm
    rw [h5] at ho
    injection ho with ho
    rw [← ho] at hc
    cases hc
/-- The row's block holds slices. -/
theorem levs_typed {T : TypeId} {Z : Nat → Prop} {w : World} {base g : Nat} {v : Value} {ls : Lv} (h : OwnLevs T Z w base v ls) (hv : v.ownBlock = some g) : ∃ cur, w.heap[g]? = some (.cells cur T (0, 0)) := by
  obtain ⟨vs, h1, _⟩ := h
  rcases h1.2 with ⟨rfl, _⟩ | ⟨g', cap, cur, rfl, _, hgb, _⟩
  · cases hv
  · injection hv with hv
    have : g' = g := hv
    subst this
    exact ⟨cur, hgb⟩
/-- Blocks of unlike types are two. -/
theorem typed_ne {w : World} {a b : Nat} {ca cb : Array Value} {ta tb : TypeId} {fa fb : Nat × Nat} (ha : w.heap[a]? = some (.cells ca ta fa)) (hb : w.heap[b]? = some (.cells cb tb fb)) (hne : ta ≠ tb) : a ≠ b := by
  rintro rfl
  rw [ha] at hb
  injection hb with hb
  injection hb with _ hb _
  exact hne hb
theorem own_typed {w : World} {base b : Nat} {n c : Nat} {xs : List Sp} (h : Own w base (.slice (some ⟨b, 0, none⟩) n c) xs) : ∃ cur, w.heap[b]? = some (.cells cur 74 (0, 0)) := by
  rcases h.2 with ⟨e, _⟩ | ⟨g', cap, cur, e, _, hgb, _⟩
  · cases e
  · injection e with e _ _
    injection e with e
    injection e with e _ _
    subst e
    exact ⟨cur, hgb⟩
theorem Kt.grown {B x : Nat} {W W' : World} (hg : W.grownBy W' (some x)) (hx : B ≤ x) (hB : B ≤ W.heap.size) (ht : ∃ cs t fr, W.heap[x]? = some (.cells cs t fr) ∧ (t = 75 ∨ t = 27)) : Kt B W W' := by
  refine ⟨hg.size, fun b hb => hg.block b (by omega) (by simp; omega), fun b cs t fr e h1 h2 => hg.block b (Array.getElem?_eq_some_iff.1 e).1 fun e2 => ?_⟩
  injection e2 with e2
  subst e2
  obtain ⟨cs', t', fr', h3, h4⟩ := ht
  rw [e] at h3
  injection h3 with h3
  injection h3 with _ h3 _
  rcases h4 with h4 | h4
  · exact h1 (h3.trans h4)
  · exact h2 (h3.trans h4)

/-- The levels behind j rounds. -/
def mix (R ls : Lv) (j : Nat) : Lv := R.take j ++ ls.drop j
theorem mix_set {R ls : Lv} {j : Nat} (hj : j < R.length) (hl : j < ls.length) : (mix R ls j).set j (lev R j) = mix R ls (j + 1) := by
  unfold mix
  have h1 : (R.take j).length = j := by simp; omega
  rw [List.set_append_right _ _ (by omega), h1, Nat.sub_self, drop_lev hl, List.set_cons_zero, List.take_succ_eq_append_getElem hj, ← lev_lt hj, List.append_assoc]
  rfl
theorem mix_app {R ls : Lv} {j : Nat} (hj : j < R.length) (hl : ls.length ≤ j) : (mix R ls j ++ [[]]).set j (lev R j) = mix R ls (j + 1) := by
  unfold mix
  have h1 : (R.take j).length = j := by simp; omega
  rw [List.drop_of_length_le hl, List.drop_of_length_le (by omega), List.append_nil, List.append_nil, List.set_append_right _ _ (by omega), h1, Nat.sub_self, List.set_cons_zero, List.take_succ_eq_append_getElem hj, ← lev_lt hj]
theorem mix_len {R ls : Lv} {j : Nat} (hj : j ≤ R.length) : (mix R ls j).length = max j ls.length := by
  unfold mix
  simp
  omega

/-- What stays from round to round of Add: the boxes of its own. -/
structure AddQ (w0 : World) (hb : Value) (W : World) : Prop where
  hist : ∃ k g s, hb = hv k g s ∧ W.heap[w0.heap.size]? = some (.cells #[.int .i64 k, .int .i64 g, s] 32)
  res : W.heap[w0.heap.size + 1]? = some (.cells #[.int .i64 0, .int .i64 0, .slice none 0 0] 32)
  below : Below w0.heap.size w0 W
/-- What holds between two rounds of Add. -/
structure AddI (w0 : World) (base bx N0 : Nat) (hb : Value) (R ls : Lv) (j : Nat) (W : World) : Prop where
  rows : ∃ v, Boxed W bx 27 v ∧ OwnL (fun b => b < w0.heap.size ∨ N0 ≤ b) W base v (mix R ls j)
  le : j ≤ R.length
  q : AddQ w0 hb W
/-- The blocks' places. -/
structure AddP (w0 : World) (base bx N0 : Nat) : Prop where
  p1 : w0.heap.size + 2 ≤ base
  p2 : base ≤ bx
  p3 : bx < N0

theorem AddQ.keep {w0 : World} {hb : Value} {W W' : World} (h : AddQ w0 hb W) (k1 : W'.heap[w0.heap.size]? = W.heap[w0.heap.size]?) (k2 : W'.heap[w0.heap.size + 1]? = W.heap[w0.heap.size + 1]?) (hb' : Below w0.heap.size w0 W') : AddQ w0 hb W' := by
  obtain ⟨k, g, s, h3, h4⟩ := h.hist
  exact ⟨⟨k, g, s, h3, k1.trans h4⟩, k2.trans h.res, hb'⟩
theorem AddQ.grown {w0 : World} {hb : Value} {W W' : World} {row : Option Nat} (h : AddQ w0 hb W) (hg : W.grownBy W' row) (hx : ∀ x, row = some x → w0.heap.size + 2 ≤ x) : AddQ w0 hb W' := by
  obtain ⟨k, g, s, h3, h4⟩ := h.hist
  exact h.keep (hg.block _ (lt_of h4) fun e => by have := hx _ e.symm; omega) (hg.block _ (lt_of h.res) fun e => by have := hx _ e.symm; omega) (h.below.grown hg h.below.size fun x e => by have := hx x e; omega)

theorem AddI.own (w0 : World) (base bx N0 B : Nat) (hb : Value) (R ls : Lv) (hp : AddP w0 base bx N0) (hB : N0 ≤ B) : OwnFrom B (AddI w0 base bx N0 hb R ls) := by
  intro j W W' row hs hg hr
  obtain ⟨p1, p2, p3⟩ := hp
  obtain ⟨v, h1, h2⟩ := hs.rows
  exact ⟨⟨v, (hg.block bx h1.lt fun e => by have := (hr bx e.symm).1; omega).trans h1, levs_other h2 hg fun r e => (hr r e).2⟩, hs.le, hs.q.grown hg fun x e => by have := (hr x e).1; omega⟩

/-- A level is set in its place. -/
theorem AddQ.set {w0 : World} {base bx N0 B : Nat} {hb : Value} {R ls : Lv} (hp : AddP w0 base bx N0) {j : Nat} {W : World} (h : AddQ w0 hb W) {L : Lv} {g n c b1 nx cx : Nat}
    (hv : Boxed W bx 27 (.slice (some ⟨g, 0, none⟩) n c)) (ho : OwnL (fun b => b < w0.heap.size ∨ N0 ≤ b) W base (.slice (some ⟨g, 0, none⟩) n c) L) (hL : L.set j (lev R j) = mix R ls (j + 1)) (hj : j < R.length)
    (hx : Own W N0 (.slice (some ⟨b1, 0, none⟩) nx cx) (lev R j)) (hb1 : N0 ≤ b1) :
    KeepsFrom B W (W.setCell ⟨g, j, none⟩ (.slice (some ⟨b1, 0, none⟩) nx cx)) ∧ Kt w0.heap.size W (W.setCell ⟨g, j, none⟩ (.slice (some ⟨b1, 0, none⟩) nx cx)) ∧ AddI w0 base bx N0 hb R ls (j + 1) (W.setCell ⟨g, j, none⟩ (.slice (some ⟨b1, 0, none⟩) nx cx)) := by
  obtain ⟨p1, p2, p3⟩ := hp
  obtain ⟨cur, hcur⟩ := levs_typed ho (g := g) rfl
  obtain ⟨cx1, hcx⟩ := own_typed hx
  have hgb := (ho.lt g rfl)
  obtain ⟨o2, hg2⟩ := OwnLevs.set ho j (Lies.of_own (L := spL) hx) fun _ b hb => ⟨by injection hb with hb; have : b1 = b := hb; exact .inr (by omega), by injection hb with hb; have : b1 = b := hb; subst this; exact typed_ne hcx hcur (by decide), by injection hb with hb; have : b1 = b := hb; subst this; exact ⟨cx1, _, hcx⟩⟩
  rw [hL] at o2
  have hne : bx ≠ g := typed_ne hv hcur (by decide)
  refine ⟨(KeepsOthers.setCell _ _ _).from _, Kt.grown hg2 (by omega) h.below.size ⟨cur, _, _, hcur, .inl rfl⟩, ⟨_, (hg2.block bx hv.lt (by simp; omega)).trans hv, o2⟩, hj, h.grown hg2 fun x e => by cases e; omega⟩

/-- An empty level is appended, and the row is laid into its box. -/
theorem AddQ.app {w0 : World} {base bx N0 B : Nat} {hb : Value} (hp : AddP w0 base bx N0) {W w3 : World} (h : AddQ w0 hb W) {L : Lv} {v v' : Value}
    (hv : Boxed W bx 27 v) (ho : OwnL (fun b => b < w0.heap.size ∨ N0 ≤ b) W base v L) (ho3 : OwnL (fun b => b < w0.heap.size ∨ N0 ≤ b) w3 base v' (L ++ [[]])) (hg3 : (W.alloc (.cells #[.slice none 0 0] 75)).grownBy w3 v.ownBlock) :
    Boxed w3 bx 27 v ∧ Boxed (w3.setCell ⟨bx, 0, none⟩ v') bx 27 v' ∧ OwnL (fun b => b < w0.heap.size ∨ N0 ≤ b) (w3.setCell ⟨bx, 0, none⟩ v') base v' (L ++ [[]]) ∧ AddQ w0 hb (w3.setCell ⟨bx, 0, none⟩ v') ∧
      KeepsFrom B W (w3.setCell ⟨bx, 0, none⟩ v') ∧ Kt w0.heap.size W (w3.setCell ⟨bx, 0, none⟩ v') ∧ v'.ownBlock ≠ some bx ∧
      ∀ (b1 nx cx : Nat) (xs : List Sp), Own W N0 (.slice (some ⟨b1, 0, none⟩) nx cx) xs → Own (w3.setCell ⟨bx, 0, none⟩ v') N0 (.slice (some ⟨b1, 0, none⟩) nx cx) xs := by
  obtain ⟨p1, p2, p3⟩ := hp
  have hoa : OwnL (fun b => b < w0.heap.size ∨ N0 ≤ b) (W.alloc (.cells #[.slice none 0 0] 75)) base v L := ho.grow ((Below.refl _ W).alloc (Nat.le_refl _) _)
  have hva : Boxed (W.alloc (.cells #[.slice none 0 0] 75)) bx 27 v := hv.alloc _
  have hrow : ∀ x, v.ownBlock = some x → base ≤ x ∧ ∃ cur, (W.alloc (.cells #[.slice none 0 0] 75)).heap[x]? = some (.cells cur 75 (0, 0)) := fun x e => ⟨(hoa.lt x e).1, levs_typed hoa e⟩
  have hb3 : Boxed w3 bx 27 v := hva.kept hg3 fun e => by
    obtain ⟨_, cur, hcur⟩ := hrow bx e.symm
    exact typed_ne hva hcur (by decide) rfl
  have hne : v'.ownBlock ≠ some bx := fun e => by
    obtain ⟨cur, hcur⟩ := levs_typed ho3 e
    exact typed_ne hb3 hcur (by decide) rfl
  have hset := grown_set w3 bx 0 v'
  have hq1 : AddQ w0 hb (W.alloc (.cells #[.slice none 0 0] 75)) := h.grown (World.grownBy_alloc W _ none) fun x e => by cases e
  have hq3 : AddQ w0 hb w3 := hq1.grown hg3 fun x e => by have := (hrow x e).1; omega
  have kt3 : Kt w0.heap.size W w3 := by
    refine (Kt.of_below ((Below.refl _ W).alloc (Nat.le_refl _) (.cells #[.slice none 0 0] 75)) h.below.size).trans ?_
    cases hvb : v.ownBlock with
    | none =>
      rw [hvb] at hg3
      exact ⟨hg3.size, fun b hb => hg3.block b (by have := h.below.size; simp; omega) (by simp), fun b cs t fr e _ _ => hg3.block b (lt_of e) (by simp)⟩
    | some x =>
      rw [hvb] at hg3
      obtain ⟨h5, cur, hcur⟩ := hrow x hvb
      exact Kt.grown hg3 (by omega) hq1.below.size ⟨cur, _, _, hcur, .inl rfl⟩
  refine ⟨hb3, hb3.set v', ho3.off hset hne fun b hb => ?_, hq3.grown hset fun x e => by cases e; omega, ?_, kt3.trans (Kt.grown hset (by omega) hq3.below.size ⟨_, _, _, hb3, .inr rfl⟩), hne, ?_⟩
  · rcases hb with hb | hb <;> omega
  · refine (((KeepsOthers.alloc W _).trans (KeepsOthers.of_grownBy hg3 fun j o ej hj => ?_)).trans (KeepsOthers.setCell _ _ _)).from _
    obtain ⟨_, cur, hcur⟩ := hrow j ej
    rw [hcur] at hj
    cases hj
    rfl
  · intro b1 nx cx xs hx
    obtain ⟨cx1, hcx⟩ := own_typed hx
    have hx1 : Own (W.alloc (.cells #[.slice none 0 0] 75)) N0 (.slice (some ⟨b1, 0, none⟩) nx cx) xs := hx.alloc _
    have hcx1 : (W.alloc (.cells #[.slice none 0 0] 75)).heap[b1]? = some (.cells cx1 74 (0, 0)) := (Below.heap_alloc _ _ _ (lt_of hcx)).trans hcx
    have hx3 : Own w3 N0 (.slice (some ⟨b1, 0, none⟩) nx cx) xs := by
      refine hx1.kept hg3 (.inr fun e => ?_)
      obtain ⟨_, cur, hcur⟩ := hrow b1 (by rw [← e]; rfl)
      exact typed_ne hcx1 hcur (by decide) rfl
    obtain ⟨cx3, hcx3⟩ := own_typed hx3
    refine hx3.kept hset (.inr fun e => ?_)
    have e' : b1 = bx := by injection e
    exact typed_ne hcx3 hb3 (by decide) e'

end Go.Proofs.Ytpdhkpgnajfobaa
end
section
/- The contract of hist.Add: the walks. -/
namespace Go.Proofs.Ytpdhkpgnajfobaa
open Go.RowKit Go.Shelf Go.Proofs.Rw Go.Proofs.Lh Go.Proofs.Rn

attribute [local go_sem] Oper.semAt_some

theorem set3 {W : World} {b : Nat} {x y z : Value} {T : TypeId} (h : W.heap[b]? = some (.cells #[x, y, z] T)) (x' y' z' : Value) :
    (((W.setCell ⟨b, 0, none⟩ x').setCell ⟨b, 1, none⟩ y').setCell ⟨b, 2, none⟩ z').heap[b]? = some (.cells #[x', y', z'] T) := by
  rw [set1 _ (set1 _ (set1 _ h))]
  rfl
theorem below3 {W : World} {b B : Nat} {w : World} (h : Below B w W) (hb : B ≤ b) (x' y' z' : Value) : Below B w (((W.setCell ⟨b, 0, none⟩ x').setCell ⟨b, 1, none⟩ y').setCell ⟨b, 2, none⟩ z') :=
  ((h.setCell (p := ⟨b, 0, none⟩) hb _).setCell (p := ⟨b, 1, none⟩) hb _).setCell (p := ⟨b, 2, none⟩) hb _
theorem grown3 {W : World} {b : Nat} (x' y' z' : Value) : W.grownBy (((W.setCell ⟨b, 0, none⟩ x').setCell ⟨b, 1, none⟩ y').setCell ⟨b, 2, none⟩ z') (some b) :=
  grown_trans (grown_trans (grown_set _ _ _ _) (grown_set _ _ _ _)) (grown_set _ _ _ _)
theorem may_of {k : Nat} (h2 : 2 ≤ k) (h1 : k ≤ 1024) : may (k : Int) = true := by
  unfold may
  rw [decide_eq_true_iff]
  omega

set_option maxHeartbeats 1000000 in
theorem add_bad (k : Nat) (g : Int) (ls : Lv) (hmd : Made k ls) (t n0 : Nat) (hn : n0 < 18446744073709551616) (hc : code ls t n0 ≠ 0) (w : World) (A : Option Addr) (c : Nat) (h : Levs w w.heap.size (.slice A ls.length c) ls) :
    Calls Try.prog 29 #[hv k g (.slice A ls.length c), .int .u64 t, .int .u64 n0] w fun e w' => e = hret (hv 0 0 (.slice none 0 0)) (code ls t n0 : Int) ∧ Below w.heap.size w w' := by
  have hb0 : Below w.heap.size w ((w.alloc (.cells #[.int .i64 k, .int .i64 g, .slice A ls.length c] 32)).alloc (.cells #[.int .i64 0, .int .i64 0, .slice none 0 0] 32)) := ((Below.refl _ w).alloc (Nat.le_refl _) _).alloc (by simp) _
  have hrf := refusal_any k g (may_of hmd.k2 hmd.k1) ls (by have := hmd.len; omega) hmd.small (by have := hmd.lev 0; omega) t n0 hn _ A c (h.grow hb0)
  obtain ⟨C, hC⟩ : ∃ C, code ls t n0 = C := ⟨_, rfl⟩
  rw [hC] at hc hrf ⊢
  have HRF := Lib.hid hrf
  have HB0 := Lib.hid hb0
  have hp : ((w.alloc (.cells #[.int .i64 k, .int .i64 g, .slice A ls.length c] 32)).alloc (.cells #[.int .i64 0, .int .i64 0, .slice none 0 0] 32)).heap[w.heap.size + 1]? = some (.cells #[.int .i64 0, .int .i64 0, .slice none 0 0] 32) := by
    have := heap_alloc_new (w.alloc (.cells #[.int .i64 k, .int .i64 g, .slice A ls.length c] 32)) (.cells #[.int .i64 0, .int .i64 0, .slice none 0 0] 32)
    simpa using this
  have HP := Lib.hid hp
  have d0 : ((C : Int) != 0) = true := by simp; omega
  clear hrf hb0 hmd h hC hp
  go_enter Try.func29, Try.ntmps29
  go_wp2_with (go_at_call 55; refine HRF.out.mono ?_; rintro e w1 ⟨rfl, hb1⟩; have hq := (hb1.block (w.heap.size + 1) (by simp)).trans HP.out; obtain ⟨q0, q1, q2⟩ := box3 hq; have f0 : ∀ i, w1.frozen? ⟨w.heap.size + 1, i, none⟩ = false := (fun i => by simp [World.frozen?, hq]); have hlt := lt_of hq; have HB1 := Lib.hid hb1; have HQ := Lib.hid hq; clear hb1 hq)
  obtain ⟨r0, r1, r2⟩ := box3 (set3 HQ.out (.int .i64 0) (.int .i64 0) (.slice none 0 0))
  refine bodyPost_ret (v := .tuple #[hv 0 0 (.slice none 0 0), .int .i64 C]) (by simp [results, Try.results29, go_sem, r0, r1, r2]) rfl ⟨rfl, below3 (thn HB0.out HB1.out) (by simp) _ _ _⟩

set_option maxRecDepth 100000 in
set_option maxHeartbeats 4000000 in
theorem addR_in (n : Nat) (hn3 : 3 ≤ n) (k : Nat) (g : Int) (ls : Lv) (hmd : Made k ls) (t n0 : Nat) (hn : n0 < 18446744073709551616) (hc : code ls t n0 = 0) (w : World) (A : Option Addr) (c : Nat) (h : Levs w w.heap.size (.slice A ls.length c) ls) :
    CallsIn Fence.wide n Try.prog 29 #[hv k g (.slice A ls.length c), .int .u64 t, .int .u64 n0] w fun e w' => ∃ v, e = hret (hv k g v) 0 ∧ Levs w' w'.heap.size v (addW k ls t n0) ∧ Below w.heap.size w w' := by
  have h1 : 1 ≤ n := by omega
  have hb0 : Below w.heap.size w ((w.alloc (.cells #[.int .i64 k, .int .i64 g, .slice A ls.length c] 32)).alloc (.cells #[.int .i64 0, .int .i64 0, .slice none 0 0] 32)) := ((Below.refl _ w).alloc (Nat.le_refl _) _).alloc (by simp) _
  have hrf := refusal_any k g (may_of hmd.k2 hmd.k1) ls (by have := hmd.len; omega) hmd.small (by have := hmd.lev 0; omega) t n0 hn _ A c (h.grow hb0)
  rw [hc] at hrf
  have hn0 : n0 ≤ 4503599627370496 := by
    unfold code at hc
    split at hc
    · omega
    split at hc
    · omega
    split at hc
    · omega
    omega
  have hm2 := hmd.add hc
  obtain ⟨R, hR⟩ : ∃ R, addW k ls t n0 = R := ⟨_, rfl⟩
  rw [hR] at hm2 ⊢
  have hRl : R.length ≤ 1000 := by have := hm2.len; omega
  have hll : ls.length ≤ 1000 := by have := hmd.len; omega
  obtain ⟨N, hN⟩ : ∃ N, ls.length = N := ⟨_, rfl⟩
  have hcl := fun (W : World) (hW : Below w.heap.size w W) => clone_any ls W w.heap.size hW.size A c (h.below hW) (by omega)
  have hp0 : ((w.alloc (.cells #[.int .i64 k, .int .i64 g, .slice A ls.length c] 32)).alloc (.cells #[.int .i64 0, .int .i64 0, .slice none 0 0] 32)).heap[w.heap.size]? = some (.cells #[.int .i64 k, .int .i64 g, .slice A ls.length c] 32) := by
    rw [Below.heap_alloc _ _ _ (by simp)]
    exact heap_alloc_new w _
  have hp1 : ((w.alloc (.cells #[.int .i64 k, .int .i64 g, .slice A ls.length c] 32)).alloc (.cells #[.int .i64 0, .int .i64 0, .slice none 0 0] 32)).heap[w.heap.size + 1]? = some (.cells #[.int .i64 0, .int .i64 0, .slice none 0 0] 32) := by
    have := heap_alloc_new (w.alloc (.cells #[.int .i64 k, .int .i64 g, .slice A ls.length c] 32)) (.cells #[.int .i64 0, .int .i64 0, .slice none 0 0] 32)
    simpa using this
  have HL := Lib.hid h
  rw [hN] at hrf hcl hb0 hp0 hp1 hll ⊢
  have HRF := Lib.hid hrf
  have HCL := Lib.hid hcl
  have HB0 := Lib.hid hb0
  have HP0 := Lib.hid hp0
  have HP1 := Lib.hid hp1
  have HN := Lib.hid hN
  have HR := Lib.hid hR
  have HMD := Lib.hid hmd
  clear hrf hb0 hmd h hc hp0 hp1 hN hR hm2 hcl
  refine callsIn_of_wp_marks Try.func29 rfl trivial ?_ rfl
  simp only [Try.ntmps29, List.size_toArray, List.length_cons, List.length_nil, Nat.reduceAdd, Nat.reduceSub, Array.replicate_succ, Array.replicate_zero, List.push_toArray, List.append_toArray, List.nil_append, List.cons_append]
  gi_wp2_with (first
    | (refine ⟨trivial, ?_⟩; gi_at_call 55; refine (callsIn_wide.2 HRF.out).mono ?_; rintro e w1 ⟨rfl, hb1⟩; have hq0 := (hb1.block w.heap.size (by simp; omega)).trans HP0.out; have hq1 := (hb1.block (w.heap.size + 1) (by simp)).trans HP1.out; obtain ⟨q0, q1, q2⟩ := box3 hq0; have hlt := lt_of hq0; have HB1 := Lib.hid (thn HB0.out hb1); have HZ1 := Lib.hid hb1.size; have HQ0 := Lib.hid hq0; have HQ1 := Lib.hid hq1; clear hb1 hq0 hq1)
    | (refine ⟨trivial, ?_⟩; gi_at_call 56; refine (callsIn_wide.2 (HCL.out w1 HB1.out)).mono ?_; rintro e w2 ⟨v, rfl, ho, hb2⟩; obtain ⟨Ac, cc, rfl, -, -⟩ := ho.form; rw [HN.out] at ho ⊢; have hq0' := (hb2.block w.heap.size hlt).trans HQ0.out; obtain ⟨q0', q1', q2'⟩ := box3 hq0'; have hlt2 := lt_of hq0'; have HO := Lib.hid ho; have HB2 := Lib.hid hb2; clear ho hb2 hq0')
    | (refine ⟨trivial, ?_⟩; gi_at_call 57; refine (reached_in (n - 1) k g _ _ _ _).mono ?_; rintro e w' ⟨rfl, rfl⟩))
  obtain ⟨W4, hW4, hsz4, r0, r1, r2, r3, hB4⟩ := heap_four w2 (.cells #[.slice Ac N cc] 27) (.cells #[.int .i64 k, .int .i64 g, .slice A N c] 32) (.cells #[.int .u64 t] 41) (.cells #[.int .u64 n0] 41)
  rw [← hW4]
  have hbw4 : Below w.heap.size w W4 := thn (thn HB1.out HB2.out) hB4
  have z1 : w.heap.size + 2 ≤ w1.heap.size := by have := HZ1.out; simp at this; omega
  have z2 : w1.heap.size ≤ w2.heap.size := HB2.out.size
  have hp : AddP w w1.heap.size w2.heap.size W4.heap.size := ⟨z1, z2, by omega⟩
  have hL4 : Levs W4 w.heap.size (.slice A ls.length c) ls := HL.out.below hbw4
  have seq := reach1_in (n - 1) (by omega) w.heap.size (w2.heap.size + 1 + 1 + 1) (w2.heap.size + 1) (w2.heap.size + 1 + 1) k g ls R t n0 HMD.out hn0 HR.out.symm hRl W4 hbw4.size A c hL4 r3 (by rw [HN.out]; exact r1) r2
  have hq4 : AddQ w (hv k g (.slice A N c)) W4 := by
    have e0 := (hB4.block w.heap.size (by omega)).trans ((HB2.out.block w.heap.size (by omega)).trans HQ0.out)
    have e1 := (hB4.block (w.heap.size + 1) (by omega)).trans ((HB2.out.block (w.heap.size + 1) (by omega)).trans HQ1.out)
    exact ⟨⟨k, g, _, rfl, e0⟩, e1, hbw4⟩
  have hI0 : AddI w w1.heap.size w2.heap.size W4.heap.size (hv k g (.slice A N c)) R ls 0 W4 := by
    refine ⟨⟨_, r0, ?_⟩, Nat.zero_le _, hq4⟩
    have : mix R ls 0 = ls := by simp [mix]
    rw [this]
    exact (HO.out.grow hB4).zone fun b _ hz => .inl hz
  have hlev := HN.out
  refine range_n rfl h1 (gf := 87) (lb := #[.pointer (some ⟨w2.heap.size + 1 + 1 + 1, 0, none⟩), .pointer (some ⟨w2.heap.size + 1, 0, none⟩), .pointer (some ⟨w2.heap.size + 1 + 1, 0, none⟩)]) rfl trivial (enters_of Try.func87 (by kernel_rfl) rfl)
    seq (fun h k => h.trans k) (Kt.put hbw4.size) (PxR.put (w := W4)) (Below.refl _ _) (fun _ => rfl)
    (AddI w w1.heap.size w2.heap.size W4.heap.size (hv k g (.slice A N c)) R ls)
    (fun _ _ _ => False)
    (AddI.own _ _ _ _ _ _ _ _ hp (Nat.le_refl _))
    (fun _ _ _ _ _ hs _ _ => hs)
    hI0
    (fun x => { tmps := #[hv k g (.slice A N c), .int .u64 t, .int .u64 n0, .pointer (some ⟨w.heap.size, 0, none⟩), undef, undef, .pointer (some ⟨w.heap.size + 1, 0, none⟩), .int .i64 0, .int .i64 0, .pointer (some ⟨w2.heap.size, 0, none⟩), .int .i64 (x.i : Int), .slice x.A x.n x.c, hv k g (.slice A N c),
      .int .u64 t, .int .u64 n0, .int .i64 0, .int .i64 0, .bool false, undef, undef, .pointer (some ⟨w.heap.size, 2, none⟩), .slice A N c, .slice Ac N cc, hv k g (.slice A N c), .int .u64 t, .int .u64 n0,
      .func (.func 87) #[] #[.pointer (some ⟨w2.heap.size + 1 + 1 + 1, 0, none⟩), .pointer (some ⟨w2.heap.size + 1, 0, none⟩), .pointer (some ⟨w2.heap.size + 1 + 1, 0, none⟩)], .int .i64 (x.i : Int), .slice x.A x.n x.c,
      undef, undef, undef, undef, undef, undef, undef, undef, undef, undef, undef, undef, undef, undef], defers := [] }) ?assign ?body ?done ?stop
  case assign =>
    intro l x W K hK
    gi_wp2
    exact hK
  case body =>
    rintro l j x W hI ⟨hj, hx1, hx2, ⟨b1, hx3, hb1⟩, hx4⟩
    rw [hx3] at hx4 ⊢
    rw [hx1]
    generalize x.n = nx at *
    generalize x.c = cx at *
    obtain ⟨v, hv, ho⟩ := hI.rows
    have hq := hI.q
    have hml := mix_len (R := R) (ls := ls) hI.le
    obtain ⟨L, hLe⟩ : ∃ L, mix R ls j = L := ⟨_, rfl⟩
    have hms := mix_set (R := R) (ls := ls) hj
    have hma := mix_app (R := R) (ls := ls) hj
    rw [hLe] at hml ho hms hma
    have hjj : j < 1000 := by omega
    by_cases hl : j < ls.length
    · have e : L.length = N := by omega
      obtain ⟨gg, cap, rfl, hg1, hg2, hcap⟩ := ho.addr (by omega)
      rw [e] at hv ho hcap
      obtain ⟨⟨u, hu⟩, hf⟩ := ho.cell j (by omega)
      have hstep := hq.set (B := W4.heap.size) hp hv ho (hms hl) hj hx4 hb1
      have hc := hv.cell
      have hne : ((j : Int) == (N : Int)) = false := by rw [beq_eq_false_iff_ne]; omega
      have hjN : (j : Int) < (N : Int) := by omega
      have hlt4 := hv.lt
      have HST := Lib.hid hstep
      clear hstep hv ho hms hma hml hLe hI hx1 hx2 hx3 hx4 hI0 seq r0 r1 r2 r3 hL4 hq4 hq e hj hl hlev hp
      gi_wp2
      exact HST.out
    · have e : L.length = j := by omega
      obtain ⟨Av, cv, rfl, -, -⟩ := ho.form
      rw [e] at hv ho
      have hc := hv.cell
      have hlt4 := hv.lt
      have HO4 := Lib.hid ho
      have HV := Lib.hid hv
      have HE := Lib.hid e
      have hLL : List.length (L ++ [([] : List Sp)]) = j + 1 := by rw [List.length_append, e]; rfl
      have HLL := Lib.hid hLL
      have HMA := Lib.hid (hma (by omega))
      have HX4 := Lib.hid hx4
      have HQ4 := Lib.hid hq
      have hzW : w1.heap.size ≤ W.heap.size := by omega
      clear hv ho hms hma hml hI hx1 hx2 hx3 hx4 hI0 seq r0 r1 r2 r3 hL4 hq4 hq e hl hlev hLe hLL
      gi_wp2_with (gi_at_builtin; refine wpListIn_lev _ 24 info_row Try.underlying27 rfl (by decide) W rfl _ _ rfl w1.heap.size _ _ L [] rfl HO4.out W.heap.size rfl rfl (Lies.nil _ _ (by unfold maxLen; omega)) (fun h => absurd rfl h) (by rw [HE.out]; omega) hzW ?_; intro v' w3 ho3 hq3 hg3; obtain ⟨g2, cap2, hv2, hg21, hg22, hcap2⟩ := ho3.addr (by rw [HLL.out]; omega); rw [HLL.out] at hv2 hcap2; subst hv2; obtain ⟨a1, a2, a3, a4, a5, a6, a7, a8⟩ := HQ4.out.app (B := W4.heap.size) hp HV.out HO4.out ho3 hg3; have hne : g2 ≠ w2.heap.size := (fun e => a7 (by rw [← e]; rfl)); obtain ⟨⟨u2, hu2⟩, hf2⟩ := ho3.cell j (by rw [HLL.out]; omega); have hc3 := a1.cell; have hf3 := a1.frozen; have hlt3 := a1.lt; have hstep := a4.set (B := W4.heap.size) hp a2 a3 HMA.out hj (a8 _ _ _ _ HX4.out) hb1; have HST := Lib.hid hstep; have A5 := Lib.hid a5; have A6 := Lib.hid a6; clear hstep a1 a2 a3 a4 a5 a6 a7 a8 ho3 hq3 hg3)
      obtain ⟨s1, s2, s3⟩ := HST.out
      exact ⟨A5.out.trans s1, A6.out.trans s2, s3⟩
  case done =>
    rintro D m W hD ⟨hmR, hmd⟩ hI hK
    obtain ⟨v, hv, ho⟩ := hI.rows
    have e : mix R ls m = R := by unfold mix; rw [← hmd, List.take_append_drop]
    rw [e] at ho
    obtain ⟨Av, cv, rfl, -, -⟩ := ho.form
    obtain ⟨k', g', s', hh, hhb⟩ := hI.q.hist
    have hhb : W.heap[w.heap.size]? = some (.cells #[.int .i64 k, .int .i64 g, .slice A N c] 32) := by
      simp only [Value.agg.injEq, Array.mk.injEq, List.cons.injEq, Value.int.injEq, true_and, and_true] at hh
      obtain ⟨rfl, rfl, rfl⟩ := hh
      exact hhb
    have hres := hI.q.res
    have hbel := hI.q.below
    obtain ⟨q0, q1, q2⟩ := box3 hhb
    obtain ⟨y0, y1, y2⟩ := box3 hres
    have f0 : ∀ i, W.frozen? ⟨w.heap.size, i, none⟩ = false := fun i => by simp [World.frozen?, hhb]
    have f1 : ∀ i, W.frozen? ⟨w.heap.size + 1, i, none⟩ = false := fun i => by simp [World.frozen?, hres]
    have l0 := lt_of hhb
    have l1 := lt_of hres
    have l2 := hv.lt
    have hc := hv.cell
    have n1 : w2.heap.size ≠ w.heap.size := by omega
    have n2 : w2.heap.size ≠ w.heap.size + 1 := by omega
    obtain ⟨NR, hNR⟩ : ∃ NR, R.length = NR := ⟨_, rfl⟩
    rw [hNR] at ho hc
    have zo : ∀ x, w.heap.size ≤ x → x < W4.heap.size → ∀ b, (b < w.heap.size ∨ W4.heap.size ≤ b) → b ≠ x := fun x h1 h2 b hb => by omega
    have on : ∀ x, x < w1.heap.size → (Value.slice Av NR cv).ownBlock ≠ some x := fun x hx e => by have := (ho.lt x e).1; omega
    have o2 := ho.off (grown_set W w.heap.size 2 (.slice Av NR cv)) (on _ (by omega)) (zo _ (by omega) (by omega))
    have o3 := o2.off (grown3 (b := w.heap.size + 1) (.int .i64 k) (.int .i64 g) (.slice Av NR cv)) (on _ (by omega)) (zo _ (by omega) (by omega))
    have hres2 : (W.setCell ⟨w.heap.size, 2, none⟩ (.slice Av NR cv)).heap[w.heap.size + 1]? = some (.cells #[.int .i64 0, .int .i64 0, .slice none 0 0] 32) := (Below.heap_setCell _ _ _ _ (by simp)).trans hres
    have hres3 := set3 hres2 (.int .i64 k) (.int .i64 g) (.slice Av NR cv)
    have hb3 := below3 (hbel.setCell (p := ⟨w.heap.size, 2, none⟩) (Nat.le_refl _) (.slice Av NR cv)) (b := w.heap.size + 1) (by omega) (.int .i64 k) (.int .i64 g) (.slice Av NR cv)
    obtain ⟨W5, hW5⟩ : ∃ W5, (((W.setCell ⟨w.heap.size, 2, none⟩ (.slice Av NR cv)).setCell ⟨w.heap.size + 1, 0, none⟩ (.int .i64 k)).setCell ⟨w.heap.size + 1, 1, none⟩ (.int .i64 g)).setCell ⟨w.heap.size + 1, 2, none⟩ (.slice Av NR cv) = W5 := ⟨_, rfl⟩
    have hK5 : W5.heap[D]? = some (.deferred (some [])) := by
      rw [← hW5, Below.heap_setCell _ _ _ _ (by simp; omega), Below.heap_setCell _ _ _ _ (by simp; omega), Below.heap_setCell _ _ _ _ (by simp; omega), Below.heap_setCell _ _ _ _ (by simp; omega)]
      exact hK
    rw [hW5] at o3 hres3 hb3
    have o4 := levs_other o3 (grownBy_putObj' W5 D (.deferred none)) fun r e => by cases e; exact ⟨_, hK5, rfl⟩
    have hres5 : (W5.putObj D (.deferred none)).heap[w.heap.size + 1]? = some (.cells #[.int .i64 k, .int .i64 g, .slice Av NR cv] 32) := (World.putObj_heap_other (by omega)).trans hres3
    obtain ⟨t0, t1, t2⟩ := box3 hres5
    have hb5 := hb3.trans (belowK_b (w := w) (Nat.le_refl _) W5 D _ (.deferred none) (by omega) hK5 rfl rfl)
    have HW5 := Lib.hid hW5
    have HK5 := Lib.hid hK5
    have O4 := Lib.hid o4.levs
    have HB5 := Lib.hid hb5
    have T0 := Lib.hid t0
    have T1 := Lib.hid t1
    have T2 := Lib.hid t2
    clear hI hv ho e hh hhb hres hbel hNR zo on o2 o3 o4 hres2 hres3 hb3 hW5 hK5 hres5 t0 t1 t2 hb5 hI0 seq r0 r1 r2 r3 hL4 hq4 hK
    gi_wp2
    rw [HW5.out]
    refine ⟨by simp, .inl ⟨_, _, rfl, run_takeDeferred HK5.out, ?_⟩⟩
    refine ⟨.tuple #[hv k g (.slice Av NR cv), .int .i64 0], by simp [results, Try.results29, go_sem, T0.out, T1.out, T2.out], ⟨_, rfl, O4.out, HB5.out⟩⟩
  case stop =>
    rintro D c pre W _ h _
    exact h.elim

theorem add_ok (k : Nat) (g : Int) (ls : Lv) (hmd : Made k ls) (t n0 : Nat) (hn : n0 < 18446744073709551616) (hc : code ls t n0 = 0) (w : World) (A : Option Addr) (c : Nat) (h : Levs w w.heap.size (.slice A ls.length c) ls) :
    Calls Try.prog 29 #[hv k g (.slice A ls.length c), .int .u64 t, .int .u64 n0] w fun e w' => ∃ v, e = hret (hv k g v) 0 ∧ Levs w' w'.heap.size v (addW k ls t n0) ∧ Below w.heap.size w w' :=
  (callsIn_wide (n := 3)).1 (addR_in 3 (by omega) k g ls hmd t n0 hn hc w A c h)

end Go.Proofs.Ytpdhkpgnajfobaa
end
