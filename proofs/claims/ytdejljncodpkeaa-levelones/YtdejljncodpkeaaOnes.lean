/-
  'skylight/skylightlaw05.LevelOnes' returns true for every input, and the input reads afterwards as it read before. Conditions: none.
-/
import Derived.Test.YtdejljncodpkeaaRows
import Derived.WalkKit
import Derived.ProofKit
import Derived.OpenShut
import Derived.ShutString
import Derived.ChangeOld
import Derived.Below
import Derived.Test.YtdejljncodpkeaaOpen
import Derived.Test.YtdejljncodpkeaaLOne
namespace Go.Proofs.Ytdejljncodpkeaa.levelOnes
open Go.Proofs Go.Proofs.Lm Go.Proofs.Op Go.Proofs.Rw
open Go.ChangeShapes Go.WideShapes Go.ChangeAt Go.RowKit
open Go.ChangeMaps (open_string shut_string)
set_option linter.unusedVariables false

theorem own : ownKnob Try.prog.godebug = none := by kernel_rfl
theorem laidOut : laidOutB Try.prog = true := by kernel_rfl

/-- A slice of integers that came in: nil, or a row of cells of its capacity, each fitting its kind. -/
def IsRow (k : IntKind) (w : World) (a : Option Addr) (len cap : Nat) (zs : List Int) : Prop :=
  (a = none ∧ len = 0 ∧ cap = 0 ∧ zs = []) ∨
  ∃ x, a = some x ∧ len ≤ cap ∧ cap ≤ maxLen ∧ zs.length = cap ∧ (∀ i, i < zs.length → w.cell? (x.add i) = some (.int k (zs.getD i 0))) ∧ ∀ n ∈ zs, (Lit.int k n).wf = true

theorem fit2_of {c : List Value} (h : Op.Fits [.u8, .u8, .u8] c) : ∃ x0 x1 x2 : Int, c = [.int .u8 x0, .int .u8 x1, .int .u8 x2] ∧ (Lit.int .u8 x0).wf = true ∧ (Lit.int .u8 x1).wf = true ∧ (Lit.int .u8 x2).wf = true := by
  match c, h with
  | [_, _, _], ⟨⟨x0, e0, e0w⟩, ⟨x1, e1, e1w⟩, ⟨x2, e2, e2w⟩, _⟩ =>
    subst e0; subst e1; subst e2
    exact ⟨x0, x1, x2, rfl, e0w, e1w, e2w⟩

theorem box_block {w wn : World} {o : Obj} (h : Below (w.alloc o).heap.size (w.alloc o) wn) : wn.heap[w.heap.size]? = some o := by
  rw [h.block _ (by simp)]
  exact heap_alloc_new w o
theorem box_below {w wn : World} {o : Obj} (h : Below (w.alloc o).heap.size (w.alloc o) wn) : Below w.heap.size w wn := ((Below.refl _ w).alloc (Nat.le_refl _) o).trans (h.mono (by simp))
open Go.Proofs.Lm (el two pairs wentN stayN leftN went stay one)
open Go.Proofs.Lm (stayTo wentTo)
/-- What stays, and what went, behind some. -/
def OneAt (w wr : World) (al : List Rw.Sp) (t n room : Nat) (v u : Value) : Prop :=
  Lies spL wr wr.heap.size v (stayTo al t n room) ∧ Own wr w.heap.size u (wentTo al t n room) ∧ (∀ b, v.ownBlock = some b → u.ownBlock ≠ some b) ∧ Below w.heap.size w wr
theorem stayTo_len (al : List Rw.Sp) (t n room : Nat) : (stayTo al t n room).length ≤ room := by
  unfold Lm.stayTo
  rw [List.length_map, List.length_range]
  omega
theorem wentTo_len (al : List Rw.Sp) (t n room : Nat) : (wentTo al t n room).length ≤ n := by
  unfold Lm.wentTo
  rw [List.length_map, List.length_range]
  omega
theorem OneAt.start {w wr : World} {xs ys : List Rw.Sp} {t room : Nat} {v : Value} (h : Lies spL wr wr.heap.size v xs) (hl : xs.length ≤ room) (hb : Below w.heap.size w wr) : OneAt w wr (xs ++ ys) t xs.length room v (.slice none 0 0) := by
  refine ⟨?_, ?_, (fun b _ e => by cases e), hb⟩
  · rw [Lm.stayTo_first _ _ _ _ hl]
    exact h
  · rw [Lm.wentTo_first _ _ _ _ hl]
    exact World.ownsRow_nil _ _ _ _
theorem OneAt.step {w wr w1 w2 w3 : World} {al : List Rw.Sp} {t n room : Nat} {v u v1 u' : Value} (hr : 1 ≤ room) (h : OneAt w wr al t n room v u) (g1 : Below wr.heap.size wr w1) (g2 : Below w1.heap.size w1 w2) (l1 : Lies spL w2 w2.heap.size v1 (one (stayTo al t n room) room (el al t n)).1)
    (hf : ∀ b, v1.ownBlock = some b → w1.heap.size ≤ b ∧ b < w2.heap.size) (ho : Own w3 w.heap.size u' (wentTo al t n room ++ (one (stayTo al t n room) room (el al t n)).2)) (hg : w2.grownBy w3 u.ownBlock) (hu' : u'.ownBlock = u.ownBlock ∨ u'.ownBlock = some w2.heap.size) :
    OneAt w w3 al t (n + 1) room v1 u' := by
  obtain ⟨h1, h2, h3, h4⟩ := h
  obtain ⟨e1, e2⟩ := Lm.one_step al t n room hr
  have hul : ∀ b, u.ownBlock = some b → w.heap.size ≤ b ∧ b < wr.heap.size := fun b hb => h2.lt b hb
  have hz := g1.size
  refine ⟨?_, ?_, ?_, ?_⟩
  · rw [e1] at l1
    exact l1.off hg fun b hb e => by have := hf b hb; have := hul b e.symm; omega
  · rw [e2]
    exact ho
  · intro b hb e
    have := hf b hb
    rcases hu' with e' | e'
    · rw [e'] at e
      have := hul b e
      omega
    · rw [e'] at e
      injection e with e
      omega
  · have h5 := thn (thn h4 g1) g2
    exact h5.grown hg h5.size fun b hb => (hul b hb).1

set_option maxRecDepth 100000 in
set_option maxHeartbeats 4000000 in
theorem walk (a0 : Option Addr) (len0 cap0 : Nat) (z0 : Nat → Nat → Int) (a1 : Option Addr) (len1 cap1 : Nat) (z1 : Nat → Nat → Int) (a2_0 a2_1 a2_2 : Int) (w : World) (w0 : Op.FlatRow [.u64, .u64] w a0 len0 cap0 z0) (w1 : Op.FlatRow [.u64, .u64] w a1 len1 cap1 z1) (w2_0 : (Lit.int .u8 a2_0).wf = true) (w2_1 : (Lit.int .u8 a2_1).wf = true) (w2_2 : (Lit.int .u8 a2_2).wf = true) :
    Calls Try.prog 4 #[.slice a0 len0 cap0, .slice a1 len1 cap1, .agg #[.int .u8 a2_0, .int .u8 a2_1, .int .u8 a2_2]] w fun e w' => e = .returned (.bool true) ∧ Below w.heap.size w w' := by
  obtain ⟨xs, hxl, hX, _⟩ := sp_of_row w0
  obtain ⟨ys, hyl, hY, _⟩ := sp_of_row w1
  subst hxl
  subst hyl
  have HX := Lib.hid hX
  have HY := Lib.hid hY
  clear w0 w1 hX hY
  obtain ⟨b200, b201⟩ := bounds_u8 w2_0
  obtain ⟨n0, rfl⟩ : ∃ m : Nat, a2_0 = m := ⟨a2_0.toNat, by omega⟩
  obtain ⟨b210, b211⟩ := bounds_u8 w2_1
  obtain ⟨n1, rfl⟩ : ∃ m : Nat, a2_1 = m := ⟨a2_1.toNat, by omega⟩
  obtain ⟨b220, b221⟩ := bounds_u8 w2_2
  obtain ⟨n2, rfl⟩ : ∃ m : Nat, a2_2 = m := ⟨a2_2.toNat, by omega⟩
  have ln0 : n0 < 256 := by omega
  have ln1 : n1 < 256 := by omega
  have ln2 : n2 < 256 := by omega
  clear w2_0 b200 b201 w2_1 b210 b211 w2_2 b220 b221
  obtain ⟨k, hk⟩ : ∃ k, n0 % 20 = k := ⟨_, rfl⟩
  obtain ⟨m, hm⟩ : ∃ m, n1 % 50 = m := ⟨_, rfl⟩
  have ek : (n0 : Int) % 20 = k := by omega
  have em : (n1 : Int) % 50 = m := by omega
  have hkl : k < 20 := by omega
  have hml : m < 50 := by omega
  clear hk hm
  by_cases hc : xs.length ≤ 20 ∧ ys.length ≤ 20
  · obtain ⟨hc1, hc2⟩ := hc
    by_cases hl : xs.length ≤ k + 1
    · have hd : ¬ ((1 : Int) + k < xs.length) := by omega
      have hroom : roomOf (1 + (k : Int)) = k + 1 := by unfold roomOf; omega
      obtain ⟨al, hal⟩ : ∃ l, xs ++ ys = l := ⟨_, rfl⟩
      have hall : al.length = xs.length + ys.length := by rw [← hal]; simp
      have HAL := Lib.hid hal
      have HALL := Lib.hid hall
      clear hal hall
      go_enter Try.func4, Try.ntmps4
      go_wp2_with (first
        | (go_at_call 8; refine (awake_any _).mono ?_; rintro e wn ⟨rfl, hn⟩; have hbx := box_block hn; have hlt := lt_of hbx; have s0 : wn.cell? ⟨w.heap.size, 0, none⟩ = some (.int .u8 n0) := (by simp [World.cell?, hbx]); have s1 : wn.cell? ⟨w.heap.size, 1, none⟩ = some (.int .u8 n1) := (by simp [World.cell?, hbx]); have s2 : wn.cell? ⟨w.heap.size, 2, none⟩ = some (.int .u8 n2) := (by simp [World.cell?, hbx]); have HB := Lib.hid (box_below hn); clear hbx hn)
        | (go_at_call 9; refine (come_yes _ _ hc1 hc2 _ _ _ _ _).mono ?_; rintro e wm ⟨rfl, rfl⟩))
      clear ek em
      go_loopw [11, 12, 13] (fun v u j wr => ∃ i : Nat, j = .int .i64 i ∧ i ≤ ys.length + m ∧ OneAt w wr al n2 (xs.length + i) (k + 1) v u) (fun _ _ j _ => ys.length + m - (intOf j).toNat)
      case atStart =>
        refine ⟨0, rfl, Nat.zero_le _, ?_⟩
        rw [← HAL.out]
        exact OneAt.start (HX.out.grow HB.out) hl HB.out
      case round =>
        obtain ⟨i, rfl, hi, hat⟩ := hrel
        have HAT := Lib.hid hat
        obtain ⟨hv, hu, _, hbel⟩ := hat
        have hSl := stayTo_len al n2 (xs.length + i) (k + 1)
        have hOl := wentTo_len al n2 (xs.length + i) (k + 1)
        obtain ⟨S, hS⟩ : ∃ l, stayTo al n2 (xs.length + i) (k + 1) = l := ⟨_, rfl⟩
        obtain ⟨O, hO⟩ : ∃ l, wentTo al n2 (xs.length + i) (k + 1) = l := ⟨_, rfl⟩
        rw [hS] at hv hSl
        rw [hO] at hu hOl
        obtain ⟨A, c, rfl, _, _, hv'⟩ := hv.form
        obtain ⟨Au, cu, rfl, _, _⟩ := own_form hu
        have HV := Lib.hid hv'
        have HU := Lib.hid hu
        have HBEL := Lib.hid hbel
        by_cases hlt : i < ys.length + m
        · obtain ⟨s, hs⟩ : ∃ s, el al n2 (xs.length + i) = s := ⟨_, rfl⟩
          have c1 := fun (W : World) (h : Lies spL W W.heap.size (.slice A S.length c) S) => one_any S (k + 1) s (by omega) (by omega) (by omega) W A c h
          rw [show ((k + 1 : Nat) : Int) = 1 + (k : Int) by omega] at c1
          have hD : (one S (k + 1) s).2.length ≤ 1 := by unfold one; split <;> simp
          obtain ⟨S', hS'⟩ : ∃ l, (one S (k + 1) s).1 = l := ⟨_, rfl⟩
          obtain ⟨D, hD'⟩ : ∃ l, (one S (k + 1) s).2 = l := ⟨_, rfl⟩
          simp only [hS', hD'] at c1 hD
          have HSS := Lib.hid hS
          have HOO := Lib.hid hO
          have HS' := Lib.hid hS'
          have HD' := Lib.hid hD'
          have HEL := Lib.hid hs
          have d1 : (i : Int) < ys.length + m := by omega
          have ht : Below w.heap.size w wr := hbel
          clear hv hu hv' hbel hS hO hS' hD'
          by_cases hly : i < ys.length
          · have hsy : s = ys[i] := by
              rw [← hs, ← HAL.out, Lm.el_lt (by rw [List.length_append]; omega), List.getElem_append_right (by omega)]
              simp
            obtain ⟨b, off, rfl, hb, _, hcell⟩ := sp_at (HY.out.below ht) (by omega)
            have hbs : b < wr.heap.size := Nat.lt_of_lt_of_le hb ht.size
            obtain ⟨q0, q1⟩ := hcell i hly
            rw [← hsy] at q0 q1
            clear hs hsy hcell ht
            have C1 := Lib.hid c1
            clear c1
            go_wp2_with (first
              | (go_at_call 17; refine (C1.out _ ((HV.out.alloc (Nat.le_refl _) _).mono (by simp))).mono ?_; rintro e w2 ⟨v1, v2, rfl, l1, l2, hb, hfr⟩; have hu2 := own_below (HU.out.alloc _) hb; have L1 := Lib.hid l1; have L2 := Lib.hid l2; have HB2 := Lib.hid hb; have HU2 := Lib.hid hu2; have HFR := Lib.hid hfr; have hsz := Nat.le_trans HBEL.out.size (Nat.le_trans (by simp) hb.size); clear l1 l2 hb hfr hu2)
              | (at_builtin; refine wpList_app2 33 _ 16 info_sp Try.underlying22 rfl (by decide) (by decide) _ rfl _ _ rfl w.heap.size _ _ O D _ rfl HU2.out rfl L2.out (sp_one _) (by omega) hsz ?_; intro v' w3 ho3 hg3 hq3; have HO3 := Lib.hid ho3; have HG3 := Lib.hid hg3; have HQ3 := Lib.hid hq3; clear ho3 hg3 hq3))
            refine ⟨⟨i + 1, by go_num, hlt, ?_⟩, by simp [intOf]; omega⟩
            refine OneAt.step (n := xs.length + i) (by omega) HAT.out ((Below.refl _ wr).alloc (Nat.le_refl _) _) HB2.out ?_ HFR.out ?_ HG3.out HQ3.out
            · rw [HSS.out, HEL.out, HS'.out]
              exact L1.out
            · rw [HOO.out, HSS.out, HEL.out, HD'.out]
              exact HO3.out
          · have hst : s = (n2, n2) := by
              rw [← hs, Lm.el_ge (by rw [HALL.out]; omega)]
            subst hst
            clear hs ht
            have C1 := Lib.hid c1
            clear c1
            go_wp2_with (first
              | (go_at_call 17; refine (C1.out _ ((HV.out.alloc (Nat.le_refl _) _).mono (by simp))).mono ?_; rintro e w2 ⟨v1, v2, rfl, l1, l2, hb, hfr⟩; have hu2 := own_below (HU.out.alloc _) hb; have L1 := Lib.hid l1; have L2 := Lib.hid l2; have HB2 := Lib.hid hb; have HU2 := Lib.hid hu2; have HFR := Lib.hid hfr; have hsz := Nat.le_trans HBEL.out.size (Nat.le_trans (by simp) hb.size); clear l1 l2 hb hfr hu2)
              | (at_builtin; refine wpList_app2 33 _ 16 info_sp Try.underlying22 rfl (by decide) (by decide) _ rfl _ _ rfl w.heap.size _ _ O D _ rfl HU2.out rfl L2.out (sp_one _) (by omega) hsz ?_; intro v' w3 ho3 hg3 hq3; have HO3 := Lib.hid ho3; have HG3 := Lib.hid hg3; have HQ3 := Lib.hid hq3; clear ho3 hg3 hq3))
            refine ⟨⟨i + 1, by go_num, hlt, ?_⟩, by simp [intOf]; omega⟩
            refine OneAt.step (n := xs.length + i) (by omega) HAT.out ((Below.refl _ wr).alloc (Nat.le_refl _) _) HB2.out ?_ HFR.out ?_ HG3.out HQ3.out
            · rw [HSS.out, HEL.out, HS'.out]
              exact L1.out
            · rw [HOO.out, HSS.out, HEL.out, HD'.out]
              exact HO3.out
        · have e : i = ys.length + m := by omega
          have hT : xs.length + (ys.length + m) = al.length + m := by rw [HALL.out]; omega
          have eS : stay al n2 m (k + 1) = S := by rw [← Lm.stayTo_all, ← hT, ← e]; exact hS
          have eO : went al n2 m (k + 1) ++ List.replicate (leftN al.length m (k + 1)) (n2, n2) = O := by rw [← Lm.wentTo_all, ← hT, ← e]; exact hO
          have hkb := Lm.leftN_le al.length m (k + 1) (by omega)
          have p1 := fun (W : World) (hb : Below w.heap.size w W) => push_any xs ys (1 + (k : Int)) m n2 (by omega) (by omega) (by omega) W w.heap.size a0 a1 cap0 cap1 (HX.out.below hb) (HY.out.below hb) hb.size
          simp only [hroom, HAL.out, eS] at p1
          obtain ⟨wl, hwl⟩ : ∃ l, went al n2 m (k + 1) = l := ⟨_, rfl⟩
          obtain ⟨K, hK⟩ : ∃ l, leftN al.length m (k + 1) = l := ⟨_, rfl⟩
          simp only [hwl, hK] at p1 eO hkb
          have hwO : wl.length ≤ O.length := by rw [← eO]; simp
          have P1 := Lib.hid p1
          have EO := Lib.hid eO
          have d1 : ¬ ((i : Int) < ys.length + m) := by omega
          rename World => wo
          clear p1 eO eS hT hwl hK hv hu hv' hbel hS hO hroom
          go_wp2_with (go_at_call 10; (with_reducible refine (P1.out _ HBEL.out).mono ?_); rintro e wp ⟨b1, c1, rfl, hb1, hc1, hne, o1, o2, hb⟩; have HO1 := Lib.hid o1; have HO2 := Lib.hid o2; have HBP := Lib.hid hb; clear hb o1 o2)
          go_loopw [18, 20] (fun v j wr => ∃ j' : Nat, j = .int .u64 j' ∧ j' ≤ K ∧ Own wr wo.heap.size v (wl ++ List.replicate j' (n2, n2)) ∧ v.ownBlock ≠ some b1 ∧ wr.heap[b1]? = wp.heap[b1]? ∧ Below wo.heap.size wo wr) (fun _ j _ => K - (intOf j).toNat)
          case atStart => exact ⟨0, rfl, Nat.zero_le _, by simpa using HO2.out, (by intro h; injection h with h; exact hne h.symm), rfl, HBP.out⟩
          case round =>
            obtain ⟨j, rfl, hj, hown, hnb, hkb1, hbe⟩ := hrel
            have HOWN := Lib.hid hown
            have HBE := Lib.hid hbe
            have HKB := Lib.hid hkb1
            have HNB := Lib.hid hnb
            have hb1l : b1 < wr.heap.size := by have := lt_of (hkb1.trans (show wp.heap[b1]? = some (wp.heap[b1]'(HO1.out.lt b1 rfl).2) from Array.getElem?_eq_getElem _)); exact this
            have HBL := Lib.hid hb1l
            clear hbe hkb1 hnb hb1l
            by_cases hlt2 : j < K
            · have d2 : (j : Int) < 60 := by omega
              clear hown
              go_wp2_with (at_builtin; refine wpList_app2 33 _ 16 info_sp Try.underlying22 rfl (by decide) (by decide) _ rfl _ _ rfl wo.heap.size _ _ (wl ++ List.replicate j (n2, n2)) [(n2, n2)] _ rfl (HOWN.out.alloc _) rfl (lit1 _ _ rfl n2 n2) (sp_one _) (by simp; omega) (by have := HBE.out.size; simp; omega) ?_; intro v' w3 ho3 hg3 hq3; have HO3 := Lib.hid ho3; have HG3 := Lib.hid hg3; have HQ3 := Lib.hid hq3; clear ho3 hg3 hq3)
              refine ⟨⟨j + 1, by go_num, hlt2, ?_, ?_, ?_, (HBE.out.alloc HBE.out.size _).grown HG3.out (by have := HBE.out.size; simp; omega) (fun k hk => (HOWN.out.lt k hk).1)⟩, by simp [intOf]; omega⟩
              · have ho := HO3.out
                rw [List.append_assoc, ← List.replicate_succ'] at ho
                exact ho
              · rcases HQ3.out with e | e
                · rw [e]
                  exact HNB.out
                · rw [e]
                  intro h
                  injection h with h
                  have := HBL.out
                  simp at h
                  omega
              · have e2 := HG3.out.block b1 (by have := HBL.out; simp; omega) (Ne.symm HNB.out)
                rw [e2, Below.heap_alloc _ _ _ HBL.out]
                exact HKB.out
            · have ej : j = K := by omega
              subst ej
              rw [EO.out] at hown
              obtain ⟨Ab, cb, rfl, _, _⟩ := own_form hown
              have la : Lies spL wr wr.heap.size (.slice (some ⟨b1, 0, none⟩) S.length S.length) S := Lies.of_own (L := spL) (own_keep HO1.out (fun b hb => by injection hb with hb; subst hb; exact HKB.out))
              have q1 := same_any S (by omega) wr _ (Nat.le_refl _) _ _ _ _ la (HV.out.grow HBE.out)
              have q2 := fun (W : World) (h : Below wr.heap.size wr W) => same_any O (by omega) W _ (Nat.le_refl _) _ _ _ _ ((Lies.of_own (L := spL) hown).grow h) (((Lies.of_own (L := spL) HU.out).grow HBE.out).grow h)
              have Q1 := Lib.hid q1
              have Q2 := Lib.hid q2
              have HB9 := Lib.hid (thn HBEL.out HBE.out)
              clear q1 q2 la hown
              go_wp2_with (first
                | (go_at_call 12; (with_reducible refine Q1.out.mono ?_); rintro e ws ⟨rfl, hs1⟩; have HS1 := Lib.hid hs1; clear hs1)
                | (go_at_call 12; (with_reducible refine (Q2.out _ HS1.out).mono ?_); rintro e wz ⟨rfl, hs2⟩; have HZ := Lib.hid (thn (thn HB9.out HS1.out) hs2); clear hs2))
              go_ret
              exact ⟨rfl, HZ.out⟩
    · have hd : (1 : Int) + k < xs.length := by omega
      clear hl
      go_enter Try.func4, Try.ntmps4
      go_wp2_with (first
        | (go_at_call 8; refine (awake_any _).mono ?_; rintro e wn ⟨rfl, hn⟩; have hbx := box_block hn; have hlt := lt_of hbx; have s0 : wn.cell? ⟨w.heap.size, 0, none⟩ = some (.int .u8 n0) := (by simp [World.cell?, hbx]); have s1 : wn.cell? ⟨w.heap.size, 1, none⟩ = some (.int .u8 n1) := (by simp [World.cell?, hbx]); have s2 : wn.cell? ⟨w.heap.size, 2, none⟩ = some (.int .u8 n2) := (by simp [World.cell?, hbx]); have HB := Lib.hid (box_below hn); clear hbx hn)
        | (go_at_call 9; refine (come_yes _ _ hc1 hc2 _ _ _ _ _).mono ?_; rintro e wm ⟨rfl, rfl⟩))
      go_ret
      exact ⟨rfl, HB.out⟩
  · go_enter Try.func4, Try.ntmps4
    go_wp2_with (first
      | (go_at_call 8; refine (awake_any _).mono ?_; rintro e wn ⟨rfl, hn⟩; have hbx := box_block hn; have hlt := lt_of hbx; have s0 : wn.cell? ⟨w.heap.size, 0, none⟩ = some (.int .u8 n0) := (by simp [World.cell?, hbx]); have s1 : wn.cell? ⟨w.heap.size, 1, none⟩ = some (.int .u8 n1) := (by simp [World.cell?, hbx]); have s2 : wn.cell? ⟨w.heap.size, 2, none⟩ = some (.int .u8 n2) := (by simp [World.cell?, hbx]); have HB := Lib.hid (box_below hn); clear hbx hn)
      | (go_at_call 9; refine (come_no _ _ hc _ _ _ _ _).mono ?_; rintro e wm ⟨rfl, rfl⟩))
    go_ret
    exact ⟨rfl, HB.out⟩

set_option maxRecDepth 100000 in
theorem lifted (os : Os) (started : os.Started) (H : Type) (enc : TypeId × Value → H) :
    ReturnsInHanded {} Try.checked os 4 .any (Rows.levelOnesSpec.pre6 enc Try.prog Try.f4 Rows.levelOnesRow.domain false) (Rows.levelOnesSpec.post enc Try.prog Try.f4 false true false false) := by
  refine returnsInHanded_of_change (C := Try.checked) own started (by kernel_rfl) Try.func4
    (ChangeSpec.witness6 (enc := enc) (C := Try.checked) false ⟨#[], #[.slice none 0 0, .slice none 0 0, .agg #[.int .u8 0, .int .u8 0, .int .u8 0]], []⟩ 8 (by kernel_rfl) (by kernel_rfl) (by kernel_rfl) (by kernel_rfl)) ?_
  intro W base args ds gs before hval0 hW hcnd _
  have hval : ∀ (j : Nat) t v, Try.f4.params[j]? = some t → args[j]? = some v → Value.okWide Try.prog W .any base t v := hval0
  have hW' := hW
  obtain ⟨p, q, hA0, hV, rfl, hfz, hnd⟩ := hW
  have hA : DataW.TrodAll enc Try.prog W 0 (fun _ => true) true Try.f4.params.toList args.toList ds p := hA0
  rw [Try.params4] at hA hval
  obtain ⟨v0, vs0, d0, ds0, p0, q0, hargs, rfl, rfl, h0, r0⟩ := trodAll_cons hA
  obtain ⟨v1, vs1, d1, ds1, p1, q1, rfl, rfl, rfl, h1, r1⟩ := trodAll_cons r0
  obtain ⟨v2, vs2, d2, ds2, p2, q2, rfl, rfl, rfl, h2, r2⟩ := trodAll_cons r1
  obtain ⟨rfl, rfl, rfl⟩ := trodAll_nil r2
  obtain rfl : args = #[v0, v1, v2] := by cases args; simp_all
  obtain ⟨rfl, rfl⟩ := trodVars_none hV
  obtain ⟨a0, len0, cap0, rfl⟩ := okWide_slice Try.underlying22 (hval 0 22 v0 rfl rfl)
  have k0 := h0
  have lt0 : ∀ x ∈ p0, x.block < W.heap.size := by obtain ⟨m, hm⟩ := k0; exact DataW.trod_lt m _ _ _ hm
  obtain ⟨z0, w0⟩ := Op.open_flats (f := 9) (ks := [.u64, .u64]) Try.underlying22 (by kernel_rfl) (by kernel_rfl) (by decide) h0
  obtain ⟨a1, len1, cap1, rfl⟩ := okWide_slice Try.underlying22 (hval 1 22 v1 rfl rfl)
  have k1 := h1
  have lt1 : ∀ x ∈ p1, x.block < W.heap.size := by obtain ⟨m, hm⟩ := k1; exact DataW.trod_lt m _ _ _ hm
  obtain ⟨z1, w1⟩ := Op.open_flats (f := 9) (ks := [.u64, .u64]) Try.underlying22 (by kernel_rfl) (by kernel_rfl) (by decide) h1
  have k2 := h2
  have lt2 : ∀ x ∈ p2, x.block < W.heap.size := by obtain ⟨m, hm⟩ := k2; exact DataW.trod_lt m _ _ _ hm
  obtain ⟨c2, rfl, fit2⟩ := Op.open_flat (f := 9) (ks := [.u8, .u8, .u8]) (by kernel_rfl) (by kernel_rfl) (hval 2 31 v2 rfl rfl) h2
  obtain ⟨a2_0, a2_1, a2_2, rfl, w2_0, w2_1, w2_2⟩ := fit2_of fit2
  clear hA0 hval0
  refine (walk a0 len0 cap0 z0 a1 len1 cap1 z1 a2_0 a2_1 a2_2 W w0 w1 w2_0 w2_1 w2_2).mono fun e W' ⟨he, bel⟩ => ?_
  subst he
  exact ⟨_, rfl, _, _, _, [], _, [], hW', trodAll_mk1 (shut_bool Try.underlying4 _), (trodAll_cons_mk (Below.trod laidOut (by kernel_rfl) (of_decide_eq_true (by kernel_rfl)) k0 bel lt0) (trodAll_cons_mk (Below.trod laidOut (by kernel_rfl) (of_decide_eq_true (by kernel_rfl)) k1 bel lt1) (trodAll_cons_mk (Below.trod laidOut (by kernel_rfl) (of_decide_eq_true (by kernel_rfl)) k2 bel lt2) trodAll_mk0))), rfl, bel.frame _, fun h => by cases h⟩

theorem over : Rows.levelOnesRow.holds Try.pinned (OpenSpec.ofChange Rows.levelOnesSpec) :=
  OpenClaim.holds_of_wide 4 Try.f4 rfl rfl rfl rfl rfl rfl rfl ⟨rfl, rfl, rfl, rfl, rfl⟩ rfl rfl rfl rfl rfl (by kernel_rfl) Try.func4 (by kernel_rfl)
    (of_decide_eq_true (by kernel_rfl)) (by unfold Func.isWrapper; first | (rw [if_pos (by decide +kernel)]; kernel_rfl) | (rw [if_neg (by decide +kernel)]; exact ⟨rfl, rfl⟩))
    (fun os started H enc _ => lifted os started H enc)

/-- The statement. -/
theorem proved : Rows.LevelOnesSaid := over
#print axioms proved
end Go.Proofs.Ytdejljncodpkeaa.levelOnes
