/- The contracts of hist's small functions: mayBe, at, Last, New, slices.Equal and slices.Clone as hist calls them. -/
import Derived.RegionTactic
import Derived.BigQuiet
import Derived.WalkSpells
import Derived.Test.YtafcgfhkeceiaaaLRef
import Derived.Test.YtafcgfhkeceiaaaRowed3
import Derived.Test.YtafcgfhkeceiaaaHiMath2
namespace Go.Proofs.Ytafcgfhkeceiaaa
open Go.RowKit Go.Proofs.Rw Go.Proofs.Lh

theorem ret_b {a b : Bool} (h : a = b) : Ending.returned (.bool a) = .returned (.bool b) := by rw [h]

theorem mayBe_any (k : Int) (w : World) :
    Calls Try.prog 38 #[.int .i64 k] w fun e w' => e = .returned (.bool (may k)) ∧ w = w' := by
  by_cases h0 : 2 ≤ k
  · by_cases h1 : k ≤ 1024
    · go_enter Try.func38, Try.ntmps38
      go_wp2
      go_ret
      exact ⟨ret_b (by simp [may, h0, h1]), rfl⟩
    · go_enter Try.func38, Try.ntmps38
      go_wp2
      go_ret
      exact ⟨ret_b (by simp [may, h1]), rfl⟩
  · go_enter Try.func38, Try.ntmps38
    go_wp2
    go_ret
    exact ⟨ret_b (by simp [may]; omega), rfl⟩

/-- A histogram as a value. -/
abbrev hv (k g : Int) (s : Value) : Value := .agg #[.int .i64 k, .int .i64 g, s]

set_option maxHeartbeats 1000000 in
theorem at_any (k g : Int) (ls : Lv) (i : Nat) (w : World) (B : Nat) (hB : B ≤ w.heap.size) (A : Option Addr) (c : Nat) (h : Levs w B (.slice A ls.length c) ls) :
    Calls Try.prog 36 #[hv k g (.slice A ls.length c), .int .i64 (i : Int)] w fun e w' => ∃ A' c', e = .returned (.slice A' (lev ls i).length c') ∧ Lies spL w B (.slice A' (lev ls i).length c') (lev ls i) ∧ Below w.heap.size w w' := by
  rcases Nat.lt_or_ge i ls.length with hi | hi
  · obtain ⟨b, off, rfl, hb, _, hc⟩ := h.at (by omega)
    obtain ⟨Ai, ci, hcell, _, _, hL⟩ := hc i hi
    rw [lev_lt hi]
    have hbs : b < w.heap.size := by omega
    have HL := Lib.hid hL
    generalize ls[i] = l at *
    clear h hc hL
    go_enter Try.func36, Try.ntmps36
    go_wp2
    go_ret
    exact ⟨_, _, rfl, HL.out, (Below.refl _ w).alloc (Nat.le_refl _) _⟩
  · rw [lev_ge hi]
    clear h
    go_enter Try.func36, Try.ntmps36
    go_wp2
    go_ret
    exact ⟨none, 0, rfl, Lies.nil _ _ (by unfold maxLen; omega), (Below.refl _ w).alloc (Nat.le_refl _) _⟩

/-- What Last tells. -/
abbrev lastV (ls : Lv) : Ending := .returned (.tuple #[.int .u64 (((lastOf ls).getD 0 : Nat) : Int), .bool (lastOf ls).isSome])
theorem lastOf_nil {ls : Lv} (h : (lev ls 0).length = 0) : lastOf ls = none := by
  cases ls with
  | nil => rfl
  | cons l ls =>
    have : l = [] := List.eq_nil_of_length_eq_zero h
    subst this
    rfl
theorem lastOf_at {ls : Lv} {n : Nat} (h : n + 1 = (lev ls 0).length) : lastOf ls = some (lev ls 0)[n].2 := by
  cases ls with
  | nil => simp [lev] at h
  | cons l ls =>
    have e : lev (l :: ls) 0 = l := rfl
    simp only [e] at h ⊢
    rw [lastOf, List.getLast?_eq_getElem?, show l.length - 1 = n by omega, List.getElem?_eq_getElem (by omega)]
    rfl

set_option maxHeartbeats 1000000 in
theorem last_any (k g : Int) (ls : Lv) (w : World) (B : Nat) (hB : B ≤ w.heap.size) (A : Option Addr) (c : Nat) (h : Levs w B (.slice A ls.length c) ls) (hl : (lev ls 0).length ≤ 1000000) :
    Calls Try.prog 37 #[hv k g (.slice A ls.length c)] w fun e w' => e = lastV ls ∧ Below w.heap.size w w' := by
  have hat := at_any k g ls 0 (w.alloc (.cells #[.int .i64 k, .int .i64 g, .slice A ls.length c] 31)) B (by simp; omega) A c (h.alloc hB _)
  have HAT := Lib.hid hat
  rcases hn : (lev ls 0).length with _ | n
  · have hz := lastOf_nil hn
    have HN := Lib.hid hn
    clear hat h hn hl
    go_enter Try.func37, Try.ntmps37
    go_wp2_with (go_at_call 36; refine HAT.out.mono ?_; rintro e w1 ⟨A', c', rfl, hL, hb⟩; rw [HN.out] at *)
    refine bodyPost_ret (results_tmp2 rfl _ _ _) rfl ⟨?_, ((Below.refl _ w).alloc (Nat.le_refl _) _).trans (hb.mono (by simp))⟩
    unfold lastV
    rw [hz]
    rfl
  · have hz := lastOf_at (n := n) hn.symm
    have HN := Lib.hid hn
    have hn2 : n < 1000000 := by omega
    rw [show lastV ls = .returned (.tuple #[.int .u64 ((lev ls 0)[n].2 : Int), .bool true]) by unfold lastV; rw [hz]; rfl]
    obtain ⟨x, hx⟩ : ∃ x, (lev ls 0)[n]? = some x := ⟨_, List.getElem?_eq_getElem (by omega)⟩
    rw [show (lev ls 0)[n] = x by rw [List.getElem?_eq_getElem (by omega)] at hx; injection hx]
    have HX := Lib.hid hx
    clear hat h hl hz hx hn
    go_enter Try.func37, Try.ntmps37
    go_upto_region 2 with (go_at_call 36; refine HAT.out.mono ?_; rintro e w1 ⟨A', c', rfl, hL, hb⟩)
    obtain ⟨b, off, rfl, hbb, _, hc⟩ := sp_at (hL.below (hb.mono (by simp; omega))) (by rw [HN.out]; omega)
    obtain ⟨_, q1⟩ := hc n (by rw [HN.out]; omega)
    rw [show (lev ls 0)[n]'(by rw [HN.out]; omega) = x by have hx := HX.out; rw [List.getElem?_eq_getElem (by rw [HN.out]; omega)] at hx; injection hx] at q1
    have hbs : b < w1.heap.size := by have := hb.size; simp at this; omega
    have HB := Lib.hid (((Below.refl _ w).alloc (Nat.le_refl _) _).trans (hb.mono (by simp)))
    rw [HN.out]
    clear hc hL hb HX
    have e1 : ((n + 1 : Nat) : Int) - 1 = (n : Int) := by omega
    go_wp2
    refine bodyPost_ret (results_tmp2 rfl _ _ _) rfl ⟨rfl, HB.out⟩

theorem sp_type : Try.prog.underlying 41 = some (.struct (Try.prog.fieldsOf 41)) := by kernel_rfl
theorem sp_held : Try.prog.stoodInHeld 41 = false := by kernel_rfl
theorem sp_eq (d : Nat) (a b c e : Int) (w : World) : (Op.equalIn (d + 2) 41 (.agg #[.int .u64 a, .int .u64 b]) (.agg #[.int .u64 c, .int .u64 e])).run Try.prog w = .ok (a == c && b == e) w := by
  rw [run_equalIn_agg w (d + 1) _ _ _ sp_type sp_held]
  simp [go_sem, Try.underlying41, Try.underlying23]
  by_cases h1 : a = c <;> by_cases h2 : b = e <;> simp [h1, h2]
theorem sp_neq (a b c e : Int) (w : World) : (binOp .neq 41 (.agg #[.int .u64 a, .int .u64 b]) (.agg #[.int .u64 c, .int .u64 e])).run Try.prog w = .ok (.bool (!(a == c && b == e))) w := by
  rw [run_neq_struct, show (10000 : Nat) = 9998 + 2 from rfl, sp_eq]
  rfl
theorem sp_guard (op : BinOp) (x y : Operand) (xs ys : Array Value) (w : World) : (eqGuard op 41 x y (.agg xs) (.agg ys)).run Try.prog w = .ok () w := run_eqGuard_agg w op _ x y xs ys (by kernel_rfl)
attribute [local go_sem] sp_neq sp_guard

set_option maxHeartbeats 1000000 in
theorem equal_any (xs ys : List Sp) (hl : xs.length ≤ 10000000) (w : World) (B : Nat) (hB : B ≤ w.heap.size) (A1 A2 : Option Addr) (c1 c2 : Nat) (h1 : Lies spL w B (.slice A1 xs.length c1) xs) (h2 : Lies spL w B (.slice A2 ys.length c2) ys) :
    Calls Try.prog 35 #[.slice A1 xs.length c1, .slice A2 ys.length c2] w fun e w' => e = .returned (.bool (decide (xs = ys))) ∧ Below w.heap.size w w' := by
  have H1 := Lib.hid h1
  have H2 := Lib.hid h2
  clear h1 h2
  by_cases hlen : xs.length = ys.length
  · obtain ⟨n, hn⟩ : ∃ n, xs.length = n := ⟨_, rfl⟩
    have HX := Lib.hid hn
    have HY := Lib.hid (hlen.symm.trans hn)
    have hnl : n ≤ 10000000 := by omega
    rw [← hlen, hn]
    clear hlen hn hl
    go_enter Try.func35, Try.ntmps35
    go_wp2
    go_loopw [13] (fun j wr => ∃ k : Nat, j = .int .i64 k ∧ k ≤ n ∧ xs.take k = ys.take k ∧ Below w.heap.size w wr) (fun j _ => n - (intOf j).toNat)
    case atStart => exact ⟨0, rfl, Nat.zero_le _, by simp, Below.refl _ _⟩
    case round =>
      obtain ⟨k, rfl, hk, htk, hbel⟩ := hrel
      by_cases hlt : k < n
      · have kx : k < xs.length := by rw [HX.out]; exact hlt
        have ky : k < ys.length := by rw [HY.out]; exact hlt
        have L1 := (H1.out.mono hB).below hbel
        have L2 := (H2.out.mono hB).below hbel
        rw [HX.out] at L1
        rw [HY.out] at L2
        obtain ⟨b1, o1, rfl, hb1, _, hc1⟩ := sp_at L1 (by omega)
        obtain ⟨b2, o2, rfl, hb2, _, hc2⟩ := sp_at L2 (by omega)
        obtain ⟨p0, p1⟩ := hc1 k kx
        obtain ⟨q0, q1⟩ := hc2 k ky
        have l1 : b1 < wr.heap.size := Nat.lt_of_lt_of_le hb1 hbel.size
        have l2 : b2 < wr.heap.size := Nat.lt_of_lt_of_le hb2 hbel.size
        have s1 : xs.take (k + 1) = xs.take k ++ [xs[k]] := List.take_succ_eq_append_getElem kx
        have s2 : ys.take (k + 1) = ys.take k ++ [ys[k]] := List.take_succ_eq_append_getElem ky
        have g1 : xs[k]? = some xs[k] := List.getElem?_eq_getElem kx
        have g2 : ys[k]? = some ys[k] := List.getElem?_eq_getElem ky
        generalize xs[k] = x at *
        generalize ys[k] = y at *
        obtain ⟨e1, d1⟩ : ∃ e, ((x.1 : Int) == (y.1 : Int)) = e := ⟨_, rfl⟩
        obtain ⟨e2, d2⟩ : ∃ e, ((x.2 : Int) == (y.2 : Int)) = e := ⟨_, rfl⟩
        have hxy : (x = y) ↔ (e1 && e2) = true := by
          subst d1 d2
          rw [Prod.ext_iff]
          simp
          omega
        have HXY := Lib.hid hxy
        have HB := Lib.hid hbel
        have HT := Lib.hid htk
        have S1 := Lib.hid s1
        have S2 := Lib.hid s2
        have G1 := Lib.hid g1
        have G2 := Lib.hid g2
        clear hbel hc1 hc2 htk s1 s2 g1 g2 L1 L2 hxy kx ky
        go_upto_region 6 with (fail)
        cases e1 <;> cases e2
        case true.true =>
          go_quiet (fail)
          go_wp2
          refine ⟨⟨k + 1, by go_num, hlt, ?_, below_drewN HB.out _⟩, by simp [intOf]; omega⟩
          rw [S1.out, S2.out, HT.out, HXY.out.2 rfl]
        all_goals
          go_quiet (fail)
          go_wp2
          go_ret
          refine ⟨ret_b ?_, below_drewN HB.out _⟩
          symm
          rw [decide_eq_false_iff_not]
          intro e
          have ge := G1.out
          rw [e, G2.out] at ge
          injection ge with ge
          have := HXY.out.1 ge.symm
          simp at this
      · have hx := HX.out
        have hy := HY.out
        have e : xs = ys := by
          rw [List.take_of_length_le (by omega), List.take_of_length_le (by omega)] at htk
          exact htk
        have HE := Lib.hid e
        clear htk hx hy e
        go_wp2
        go_ret
        exact ⟨ret_b (by simp [HE.out]), hbel⟩
  · have hne : xs ≠ ys := fun e => hlen (by rw [e])
    have hb : ((xs.length : Int) == (ys.length : Int)) = false := by rw [beq_eq_false_iff_ne]; omega
    have HN := Lib.hid hne
    clear hne hlen
    go_enter Try.func35, Try.ntmps35
    go_wp2
    go_ret
    exact ⟨ret_b (by simp [HN.out]), Below.refl _ _⟩

set_option maxHeartbeats 1000000 in
theorem rEq_any (xs ys : List Sp) (hl : xs.length ≤ 10000000) (w : World) (B : Nat) (hB : B ≤ w.heap.size) (A1 A2 : Option Addr) (c1 c2 : Nat) (h1 : Lies spL w B (.slice A1 xs.length c1) xs) (h2 : Lies spL w B (.slice A2 ys.length c2) ys) :
    Calls Try.prog 16 #[.slice A1 xs.length c1, .slice A2 ys.length c2] w fun e w' => e = .returned (.bool (decide (xs = ys))) ∧ Below w.heap.size w w' := by
  have H1 := Lib.hid h1
  have H2 := Lib.hid h2
  clear h1 h2
  by_cases hlen : xs.length = ys.length
  · obtain ⟨n, hn⟩ : ∃ n, xs.length = n := ⟨_, rfl⟩
    have HX := Lib.hid hn
    have HY := Lib.hid (hlen.symm.trans hn)
    have hnl : n ≤ 10000000 := by omega
    rw [← hlen, hn]
    clear hlen hn hl
    go_enter Try.func16, Try.ntmps16
    go_wp2
    go_loopw [5] (fun j wr => ∃ k : Nat, j = .int .i64 k ∧ k ≤ n ∧ xs.take k = ys.take k ∧ Below w.heap.size w wr) (fun j _ => n - (intOf j).toNat)
    case atStart => exact ⟨0, rfl, Nat.zero_le _, by simp, Below.refl _ _⟩
    case round =>
      obtain ⟨k, rfl, hk, htk, hbel⟩ := hrel
      by_cases hlt : k < n
      · have kx : k < xs.length := by rw [HX.out]; exact hlt
        have ky : k < ys.length := by rw [HY.out]; exact hlt
        have L1 := (H1.out.mono hB).below hbel
        have L2 := (H2.out.mono hB).below hbel
        rw [HX.out] at L1
        rw [HY.out] at L2
        obtain ⟨b1, o1, rfl, hb1, _, hc1⟩ := sp_at L1 (by omega)
        obtain ⟨b2, o2, rfl, hb2, _, hc2⟩ := sp_at L2 (by omega)
        obtain ⟨p0, p1⟩ := hc1 k kx
        obtain ⟨q0, q1⟩ := hc2 k ky
        have l1 : b1 < wr.heap.size := Nat.lt_of_lt_of_le hb1 hbel.size
        have l2 : b2 < wr.heap.size := Nat.lt_of_lt_of_le hb2 hbel.size
        have s1 : xs.take (k + 1) = xs.take k ++ [xs[k]] := List.take_succ_eq_append_getElem kx
        have s2 : ys.take (k + 1) = ys.take k ++ [ys[k]] := List.take_succ_eq_append_getElem ky
        have g1 : xs[k]? = some xs[k] := List.getElem?_eq_getElem kx
        have g2 : ys[k]? = some ys[k] := List.getElem?_eq_getElem ky
        generalize xs[k] = x at *
        generalize ys[k] = y at *
        obtain ⟨e1, d1⟩ : ∃ e, ((x.1 : Int) == (y.1 : Int)) = e := ⟨_, rfl⟩
        obtain ⟨e2, d2⟩ : ∃ e, ((x.2 : Int) == (y.2 : Int)) = e := ⟨_, rfl⟩
        have hxy : (x = y) ↔ (e1 && e2) = true := by
          subst d1 d2
          rw [Prod.ext_iff]
          simp
          omega
        have HXY := Lib.hid hxy
        have HB := Lib.hid hbel
        have HT := Lib.hid htk
        have S1 := Lib.hid s1
        have S2 := Lib.hid s2
        have G1 := Lib.hid g1
        have G2 := Lib.hid g2
        clear hbel hc1 hc2 htk s1 s2 g1 g2 L1 L2 hxy kx ky
        go_upto_region 6 with (fail)
        cases e1 <;> cases e2
        case true.true =>
          go_quiet (fail)
          go_wp2
          refine ⟨⟨k + 1, by go_num, hlt, ?_, below_drewN HB.out _⟩, by simp [intOf]; omega⟩
          rw [S1.out, S2.out, HT.out, HXY.out.2 rfl]
        all_goals
          go_quiet (fail)
          go_wp2
          go_ret
          refine ⟨ret_b ?_, below_drewN HB.out _⟩
          symm
          rw [decide_eq_false_iff_not]
          intro e
          have ge := G1.out
          rw [e, G2.out] at ge
          injection ge with ge
          have := HXY.out.1 ge.symm
          simp at this
      · have hx := HX.out
        have hy := HY.out
        have e : xs = ys := by
          rw [List.take_of_length_le (by omega), List.take_of_length_le (by omega)] at htk
          exact htk
        have HE := Lib.hid e
        clear htk hx hy e
        go_wp2
        go_ret
        exact ⟨ret_b (by simp [HE.out]), hbel⟩
  · have hne : xs ≠ ys := fun e => hlen (by rw [e])
    have hb : ((xs.length : Int) == (ys.length : Int)) = false := by rw [beq_eq_false_iff_ne]; omega
    have HN := Lib.hid hne
    clear hne hlen
    go_enter Try.func16, Try.ntmps16
    go_wp2
    go_ret
    exact ⟨ret_b (by simp [HN.out]), Below.refl _ _⟩

/-- What New and Add tell: a histogram, and an error's number. -/
abbrev hret (h : Value) (e : Int) : Ending := .returned (.tuple #[h, .int .i64 e])

theorem info_row : (Try.prog.info? 38).map (fun i => (i.zero, i.size, i.bytes)) = some (some (.slice none 0 0), 1, 24) := by kernel_rfl
/-- A row of the call's own, of levels. -/
abbrev OwnL (Z : Nat → Prop) (w : World) (base : Nat) (v : Value) (ls : Lv) : Prop := OwnLevs 38 Z w base v ls

theorem clone_any (ls : Lv) (w : World) (B : Nat) (hB : B ≤ w.heap.size) (A : Option Addr) (c : Nat) (h : Levs w B (.slice A ls.length c) ls) (hl : ls.length ≤ 1000000) :
    Calls Try.prog 25 #[.slice A ls.length c] w fun e w' => ∃ v, e = .returned v ∧ OwnL (fun b => b < B) w' w.heap.size v ls ∧ Below w.heap.size w w' := by
  obtain ⟨h0, vs, h1, h2, -, h3⟩ := h
  have qnil : ∀ (w : World) (a : Option Addr) (n c : Nat), (binOp .eql 26 (.slice a n c) (.slice none 0 0)).run Try.prog w = .ok (.bool a.isNone) w := fun w a n c => Lib.run_eql_slice_nil w _ _ _ _ _ _ _ Try.underlying26
  have HL := Lib.hid h1
  have H2 := Lib.hid h2
  have H3 := Lib.hid h3
  obtain ⟨n, hn⟩ : ∃ n, ls.length = n := ⟨_, rfl⟩
  rw [hn]
  have HN := Lib.hid hn
  rw [hn] at hl
  cases A with
  | none =>
    obtain ⟨e1, e2⟩ := h0 _ _ rfl
    have hz : n = 0 := by omega
    subst e2 hz
    clear h0 h1 h2 h3 hn e1
    go_enter Try.func25, Try.ntmps25
    go_wp2
    go_ret
    have e : ls = [] := List.eq_nil_of_length_eq_zero HN.out
    rw [e]
    exact ⟨_, rfl, OwnLevs.nil _ _ _ _, Below.refl _ _⟩
  | some ad =>
    have hone : ∀ y ∈ vs, ∀ u ∈ valL.enc y, u.oneCell' = true := by
      intro y hy u hu
      rw [show valL.enc y = [y] from rfl, List.mem_singleton] at hu
      subst hu
      obtain ⟨i, hi, rfl⟩ := List.getElem_of_mem hy
      exact lies_one (h3 i vs[i] (ls[i]'(by rw [← h2]; exact hi)) (List.getElem?_eq_getElem hi) (List.getElem?_eq_getElem _)).1
    have HONE := Lib.hid hone
    clear h0 h1 h2 h3 hn hone
    have ho : ∀ W : World, W.heap.size = w.heap.size → (W.alloc (.cells #[] 38)).ownsRow w.heap.size 38 1 (.slice (some ⟨W.heap.size, 0, none⟩) 0 0) ([] : List Value).length (valL.cells []) := fun W hW => own_new (L := valL) W 38 #[] 0 w.heap.size [] rfl rfl (by omega) (by unfold maxLen; omega)
    have HO := Lib.hid ho
    clear ho
    go_enter Try.func25, Try.ntmps25
    go_wp2_with (at_builtin; refine wpList_app2 (L := valL) 38 _ 24 info_row Try.underlying26 rfl (by decide) (by decide) _ rfl _ _ rfl w.heap.size _ _ [] vs B rfl (HO.out w rfl) rfl (by have := HL.out; rw [HN.out] at this; exact this.alloc hB _) HONE.out (by have := H2.out; have := HN.out; simp; omega) (by simp) ?_; intro v' w1 ho1 hg1 _; rw [valL_cells, List.nil_append] at ho1)
    go_ret
    have hb : Below w.heap.size w w1 := ((Below.refl _ w).alloc (Nat.le_refl _) _).grown hg1 (by simp) (fun k hk => ((HO.out w rfl).lt k hk).1)
    exact ⟨_, rfl, OwnLevs.clone H2.out H3.out hB hb ho1 (Nat.le_refl _), hb⟩

end Go.Proofs.Ytafcgfhkeceiaaa
