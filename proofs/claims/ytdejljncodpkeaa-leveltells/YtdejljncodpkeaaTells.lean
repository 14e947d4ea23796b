/-
  'skylight/skylightlaw05.LevelTells' returns true for every input, and the input reads afterwards as it read before. Conditions: none.
-/
import Derived.Test.YtdejljncodpkeaaRows
import Derived.WalkKit
import Derived.ProofKit
import Derived.OpenShut
import Derived.ShutString
import Derived.ChangeOld
import Derived.Below
import Derived.Test.YtdejljncodpkeaaOpen
import Derived.Test.YtdejljncodpkeaaLOne
namespace Go.Proofs.Ytdejljncodpkeaa.levelTells
open Go.Proofs Go.Proofs.Lm Go.Proofs.Op Go.Proofs.Rw
open Go.ChangeShapes Go.WideShapes Go.ChangeAt Go.RowKit
open Go.ChangeMaps (open_string shut_string)
set_option linter.unusedVariables false

theorem own : ownKnob Try.prog.godebug = none := by kernel_rfl
theorem laidOut : laidOutB Try.prog = true := by kernel_rfl

/-- A slice of integers that came in: nil, or a row of cells of its capacity, each fitting its kind. -/
def IsRow (k : IntKind) (w : World) (a : Option Addr) (len cap : Nat) (zs : List Int) : Prop :=
  (a = none ∧ len = 0 ∧ cap = 0 ∧ zs = []) ∨
  ∃ x, a = some x ∧ len ≤ cap ∧ cap ≤ maxLen ∧ zs.length = cap ∧ (∀ i, i < zs.length → w.cell? (x.add i) = some (.int k (zs.getD i 0))) ∧ ∀ n ∈ zs, (Lit.int k n).wf = true

theorem fit2_of {c : List Value} (h : Op.Fits [.u64, .u64, .u64, .u64, .u64] c) : ∃ x0 x1 x2 x3 x4 : Int, c = [.int .u64 x0, .int .u64 x1, .int .u64 x2, .int .u64 x3, .int .u64 x4] ∧ (Lit.int .u64 x0).wf = true ∧ (Lit.int .u64 x1).wf = true ∧ (Lit.int .u64 x2).wf = true ∧ (Lit.int .u64 x3).wf = true ∧ (Lit.int .u64 x4).wf = true := by
  match c, h with
  | [_, _, _, _, _], ⟨⟨x0, e0, e0w⟩, ⟨x1, e1, e1w⟩, ⟨x2, e2, e2w⟩, ⟨x3, e3, e3w⟩, ⟨x4, e4, e4w⟩, _⟩ =>
    subst e0; subst e1; subst e2; subst e3; subst e4
    exact ⟨x0, x1, x2, x3, x4, rfl, e0w, e1w, e2w, e3w, e4w⟩

theorem box_block {w wn : World} {o : Obj} (h : Below (w.alloc o).heap.size (w.alloc o) wn) : wn.heap[w.heap.size]? = some o := by
  rw [h.block _ (by simp)]
  exact heap_alloc_new w o
theorem box_below {w wn : World} {o : Obj} (h : Below (w.alloc o).heap.size (w.alloc o) wn) : Below w.heap.size w wn := ((Below.refl _ w).alloc (Nat.le_refl _) o).trans (h.mono (by simp))
open Go.Proofs.Lm (el two pairs wentN stayN leftN went stay one)

set_option maxRecDepth 100000 in
set_option maxHeartbeats 4000000 in
theorem walk (a0 : Option Addr) (len0 cap0 : Nat) (z0 : Nat → Nat → Int) (a1 : Option Addr) (len1 cap1 : Nat) (z1 : Nat → Nat → Int) (a2_0 a2_1 a2_2 a2_3 a2_4 : Int) (w : World) (w0 : Op.FlatRow [.u64, .u64] w a0 len0 cap0 z0) (w1 : Op.FlatRow [.u64, .u64] w a1 len1 cap1 z1) (w2_0 : (Lit.int .u64 a2_0).wf = true) (w2_1 : (Lit.int .u64 a2_1).wf = true) (w2_2 : (Lit.int .u64 a2_2).wf = true) (w2_3 : (Lit.int .u64 a2_3).wf = true) (w2_4 : (Lit.int .u64 a2_4).wf = true) :
    Calls Try.prog 3 #[.slice a0 len0 cap0, .slice a1 len1 cap1, .agg #[.int .u64 a2_0, .int .u64 a2_1, .int .u64 a2_2, .int .u64 a2_3, .int .u64 a2_4]] w fun e w' => e = .returned (.bool true) ∧ Below w.heap.size w w' := by
  obtain ⟨xs, hxl, hX, _⟩ := sp_of_row w0
  obtain ⟨ys, hyl, hY, _⟩ := sp_of_row w1
  subst hxl
  subst hyl
  have HX := Lib.hid hX
  have HY := Lib.hid hY
  clear w0 w1 hX hY
  obtain ⟨b200, b201⟩ := bounds_u64 w2_0
  obtain ⟨n0, rfl⟩ : ∃ m : Nat, a2_0 = m := ⟨a2_0.toNat, by omega⟩
  obtain ⟨b210, b211⟩ := bounds_u64 w2_1
  obtain ⟨n1, rfl⟩ : ∃ m : Nat, a2_1 = m := ⟨a2_1.toNat, by omega⟩
  obtain ⟨b220, b221⟩ := bounds_u64 w2_2
  obtain ⟨n2, rfl⟩ : ∃ m : Nat, a2_2 = m := ⟨a2_2.toNat, by omega⟩
  obtain ⟨b230, b231⟩ := bounds_u64 w2_3
  obtain ⟨n3, rfl⟩ : ∃ m : Nat, a2_3 = m := ⟨a2_3.toNat, by omega⟩
  obtain ⟨b240, b241⟩ := bounds_u64 w2_4
  obtain ⟨n4, rfl⟩ : ∃ m : Nat, a2_4 = m := ⟨a2_4.toNat, by omega⟩
  have ln0 : n0 < 18446744073709551616 := by omega
  have ln1 : n1 < 18446744073709551616 := by omega
  have ln2 : n2 < 18446744073709551616 := by omega
  have ln3 : n3 < 18446744073709551616 := by omega
  have ln4 : n4 < 18446744073709551616 := by omega
  clear w2_0 b200 b201 w2_1 b210 b211 w2_2 b220 b221 w2_3 b230 b231 w2_4 b240 b241
  obtain ⟨k, hk⟩ : ∃ k, n0 % 100 = k := ⟨_, rfl⟩
  obtain ⟨m, hm⟩ : ∃ m, n1 % 9007199254740992 = m := ⟨_, rfl⟩
  obtain ⟨x, hx⟩ : ∃ x, n3 % 3000 = x := ⟨_, rfl⟩
  obtain ⟨i, hi⟩ : ∃ i, n4 % 4 = i := ⟨_, rfl⟩
  have ek : (n0 : Int) % 100 = k := by omega
  have em : (n1 : Int) % 9007199254740992 = m := by omega
  have ex : (n3 : Int) % 3000 = x := by omega
  have ei : (n4 : Int) % 4 = i := by omega
  have hkl : k < 100 := by omega
  have hml : m < 9007199254740992 := by omega
  have hxl : x < 3000 := by omega
  have hil : i < 4 := by omega
  clear hk hm hx hi
  by_cases hc : xs.length ≤ 20 ∧ ys.length ≤ 20
  · obtain ⟨hc1, hc2⟩ := hc
    have hp := fun (W : World) (hb : Below w.heap.size w W) => push_any xs ys (k : Int) m n2 (by omega) (by omega) (by omega) W w.heap.size a0 a1 cap0 cap1 (HX.out.below hb) (HY.out.below hb) hb.size
    have hr := fun (W : World) (hb : Below w.heap.size w W) => rPush_any xs ys (k : Int) m n2 (by omega) (by omega) (by omega) W a0 a1 cap0 cap1 (HX.out.grow hb) (HY.out.grow hb)
    have g1 : (stay (xs ++ ys) n2 m (roomOf k)).length ≤ 10000000 := by
      have := Lm.stayN_le (n := (xs ++ ys).length) (many := m) (room := roomOf k)
      rw [Lm.stay_len]
      unfold roomOf at *
      omega
    have g2 : (went (xs ++ ys) n2 m (roomOf k)).length ≤ 10000000 := by
      have := Lm.wentN_half (xs ++ ys).length m (roomOf k)
      rw [Lm.went_len]
      rw [List.length_append] at *
      omega
    obtain ⟨st, hst⟩ : ∃ l, stay (xs ++ ys) n2 m (roomOf k) = l := ⟨_, rfl⟩
    obtain ⟨wl, hwl⟩ : ∃ l, went (xs ++ ys) n2 m (roomOf k) = l := ⟨_, rfl⟩
    obtain ⟨K, hK⟩ : ∃ l, leftN (xs ++ ys).length m (roomOf k) = l := ⟨_, rfl⟩
    simp only [hst, hwl, hK] at hp hr g1 g2
    have m1 := fun W => most_any ((x : Int) - 50) i (by omega) W
    have m2 := fun W => rMost_any ((x : Int) - 50) i (by omega) W
    have m3 := fun W => least_any ((x : Int) - 50) i (by omega) W
    have m4 := fun W => rLeast_any ((x : Int) - 50) i (by omega) W
    generalize leastI ((x : Int) - 50) i = y at m1 m2 m3 m4
    have HP := Lib.hid hp
    have HR := Lib.hid hr
    have M1 := Lib.hid m1
    have M2 := Lib.hid m2
    have M3 := Lib.hid m3
    have M4 := Lib.hid m4
    clear hp hr hst hwl hK m1 m2 m3 m4
    go_enter Try.func3, Try.ntmps3
    go_upto_region 7 with (first
      | (go_at_call 8; refine (awake_any _).mono ?_; rintro e wn ⟨rfl, hn⟩; have hbx := box_block hn; have hlt := lt_of hbx; have s0 : wn.cell? ⟨w.heap.size, 0, none⟩ = some (.int .u64 n0) := (by simp [World.cell?, hbx]); have s1 : wn.cell? ⟨w.heap.size, 1, none⟩ = some (.int .u64 n1) := (by simp [World.cell?, hbx]); have s2 : wn.cell? ⟨w.heap.size, 2, none⟩ = some (.int .u64 n2) := (by simp [World.cell?, hbx]); have s3 : wn.cell? ⟨w.heap.size, 3, none⟩ = some (.int .u64 n3) := (by simp [World.cell?, hbx]); have s4 : wn.cell? ⟨w.heap.size, 4, none⟩ = some (.int .u64 n4) := (by simp [World.cell?, hbx]); have HB := Lib.hid (box_below hn); clear hbx hn)
      | (go_at_call 9; refine (come_yes _ _ hc1 hc2 _ _ _ _ _).mono ?_; rintro e wm ⟨rfl, rfl⟩)
      | (go_at_call 10; (with_reducible refine (HP.out _ HB.out).mono ?_); rintro e wp ⟨b1, b2, rfl, _, _, _, o1, o2, hb⟩; have HO1 := Lib.hid (Lies.of_own (L := spL) o1); have HO2 := Lib.hid (Lies.of_own (L := spL) o2); have HB2 := Lib.hid (thn HB.out hb); replace s2 := (hb.cell (p := ⟨w.heap.size, 2, none⟩) hlt).trans s2; replace s3 := (hb.cell (p := ⟨w.heap.size, 3, none⟩) hlt).trans s3; replace s4 := (hb.cell (p := ⟨w.heap.size, 4, none⟩) hlt).trans s4; replace hlt := Nat.lt_of_lt_of_le hlt hb.size; clear hb o1 o2))
    go_upto_region 10 with (go_at_call 11; (with_reducible refine (HR.out _ HB2.out).mono ?_); rintro e wq ⟨v1, v2, rfl, l1, l2, hb⟩; obtain ⟨A1, d1, rfl, _, _, l1'⟩ := l1.form; obtain ⟨A2, d2, rfl, _, _, l2'⟩ := l2.form; have HL1 := Lib.hid l1'; have HL2 := Lib.hid l2'; have HQ1 := Lib.hid (HO1.out.grow hb); have HQ2 := Lib.hid (HO2.out.grow hb); have HB3 := Lib.hid (thn HB2.out hb); replace s3 := (hb.cell (p := ⟨w.heap.size, 3, none⟩) hlt).trans s3; replace s4 := (hb.cell (p := ⟨w.heap.size, 4, none⟩) hlt).trans s4; replace hlt := Nat.lt_of_lt_of_le hlt hb.size; clear hb l1 l2 l1' l2')
    have c1 := same_any st g1 wq _ (Nat.le_refl _) _ _ _ _ HQ1.out HL1.out
    have c2 := fun (W : World) (h : Below wq.heap.size wq W) => same_any wl g2 W _ (Nat.le_refl _) _ _ _ _ (HQ2.out.grow h) (HL2.out.grow h)
    have C1 := Lib.hid c1
    have C2 := Lib.hid c2
    clear c1 c2 HP HR HO1 HO2 HL1 HL2 HQ1 HQ2
    go_wp2_with (first
      | (go_at_call 12; (with_reducible refine C1.out.mono ?_); rintro e ws ⟨rfl, hs1⟩; have HS1 := Lib.hid hs1; clear hs1)
      | (go_at_call 12; (with_reducible refine (C2.out _ HS1.out).mono ?_); rintro e wz ⟨rfl, hs2⟩; have HZ := Lib.hid (thn (thn HB3.out HS1.out) hs2); clear hs2)
      | (go_at_call 13; (with_reducible refine (M1.out _).mono ?_); rintro e wm ⟨rfl, rfl⟩)
      | (go_at_call 14; (with_reducible refine (M2.out _).mono ?_); rintro e wm ⟨rfl, rfl⟩)
      | (go_at_call 15; (with_reducible refine (M3.out _).mono ?_); rintro e wm ⟨rfl, rfl⟩)
      | (go_at_call 16; (with_reducible refine (M4.out _).mono ?_); rintro e wm ⟨rfl, rfl⟩))
    go_ret
    exact ⟨rfl, HZ.out⟩
  · go_enter Try.func3, Try.ntmps3
    go_wp2_with (first
      | (go_at_call 8; refine (awake_any _).mono ?_; rintro e wn ⟨rfl, hn⟩; have hbx := box_block hn; have hlt := lt_of hbx; have s0 : wn.cell? ⟨w.heap.size, 0, none⟩ = some (.int .u64 n0) := (by simp [World.cell?, hbx]); have s1 : wn.cell? ⟨w.heap.size, 1, none⟩ = some (.int .u64 n1) := (by simp [World.cell?, hbx]); have s2 : wn.cell? ⟨w.heap.size, 2, none⟩ = some (.int .u64 n2) := (by simp [World.cell?, hbx]); have s3 : wn.cell? ⟨w.heap.size, 3, none⟩ = some (.int .u64 n3) := (by simp [World.cell?, hbx]); have s4 : wn.cell? ⟨w.heap.size, 4, none⟩ = some (.int .u64 n4) := (by simp [World.cell?, hbx]); have HB := Lib.hid (box_below hn); clear hbx hn)
      | (go_at_call 9; refine (come_no _ _ hc _ _ _ _ _).mono ?_; rintro e wm ⟨rfl, rfl⟩))
    go_ret
    exact ⟨rfl, HB.out⟩

set_option maxRecDepth 100000 in
theorem lifted (os : Os) (started : os.Started) (H : Type) (enc : TypeId × Value → H) :
    ReturnsInHanded {} Try.checked os 3 .any (Rows.levelTellsSpec.pre6 enc Try.prog Try.f3 Rows.levelTellsRow.domain false) (Rows.levelTellsSpec.post enc Try.prog Try.f3 false true false false) := by
  refine returnsInHanded_of_change (C := Try.checked) own started (by kernel_rfl) Try.func3
    (ChangeSpec.witness6 (enc := enc) (C := Try.checked) false ⟨#[], #[.slice none 0 0, .slice none 0 0, .agg #[.int .u64 0, .int .u64 0, .int .u64 0, .int .u64 0, .int .u64 0]], []⟩ 8 (by kernel_rfl) (by kernel_rfl) (by kernel_rfl) (by kernel_rfl)) ?_
  intro W base args ds gs before hval0 hW hcnd _
  have hval : ∀ (j : Nat) t v, Try.f3.params[j]? = some t → args[j]? = some v → Value.okWide Try.prog W .any base t v := hval0
  have hW' := hW
  obtain ⟨p, q, hA0, hV, rfl, hfz, hnd⟩ := hW
  have hA : DataW.TrodAll enc Try.prog W 0 (fun _ => true) true Try.f3.params.toList args.toList ds p := hA0
  rw [Try.params3] at hA hval
  obtain ⟨v0, vs0, d0, ds0, p0, q0, hargs, rfl, rfl, h0, r0⟩ := trodAll_cons hA
  obtain ⟨v1, vs1, d1, ds1, p1, q1, rfl, rfl, rfl, h1, r1⟩ := trodAll_cons r0
  obtain ⟨v2, vs2, d2, ds2, p2, q2, rfl, rfl, rfl, h2, r2⟩ := trodAll_cons r1
  obtain ⟨rfl, rfl, rfl⟩ := trodAll_nil r2
  obtain rfl : args = #[v0, v1, v2] := by cases args; simp_all
  obtain ⟨rfl, rfl⟩ := trodVars_none hV
  obtain ⟨a0, len0, cap0, rfl⟩ := okWide_slice Try.underlying22 (hval 0 22 v0 rfl rfl)
  have k0 := h0
  have lt0 : ∀ x ∈ p0, x.block < W.heap.size := by obtain ⟨m, hm⟩ := k0; exact DataW.trod_lt m _ _ _ hm
  obtain ⟨z0, w0⟩ := Op.open_flats (f := 9) (ks := [.u64, .u64]) Try.underlying22 (by kernel_rfl) (by kernel_rfl) (by decide) h0
  obtain ⟨a1, len1, cap1, rfl⟩ := okWide_slice Try.underlying22 (hval 1 22 v1 rfl rfl)
  have k1 := h1
  have lt1 : ∀ x ∈ p1, x.block < W.heap.size := by obtain ⟨m, hm⟩ := k1; exact DataW.trod_lt m _ _ _ hm
  obtain ⟨z1, w1⟩ := Op.open_flats (f := 9) (ks := [.u64, .u64]) Try.underlying22 (by kernel_rfl) (by kernel_rfl) (by decide) h1
  have k2 := h2
  have lt2 : ∀ x ∈ p2, x.block < W.heap.size := by obtain ⟨m, hm⟩ := k2; exact DataW.trod_lt m _ _ _ hm
  obtain ⟨c2, rfl, fit2⟩ := Op.open_flat (f := 9) (ks := [.u64, .u64, .u64, .u64, .u64]) (by kernel_rfl) (by kernel_rfl) (hval 2 24 v2 rfl rfl) h2
  obtain ⟨a2_0, a2_1, a2_2, a2_3, a2_4, rfl, w2_0, w2_1, w2_2, w2_3, w2_4⟩ := fit2_of fit2
  clear hA0 hval0
  refine (walk a0 len0 cap0 z0 a1 len1 cap1 z1 a2_0 a2_1 a2_2 a2_3 a2_4 W w0 w1 w2_0 w2_1 w2_2 w2_3 w2_4).mono fun e W' ⟨he, bel⟩ => ?_
  subst he
  exact ⟨_, rfl, _, _, _, [], _, [], hW', trodAll_mk1 (shut_bool Try.underlying4 _), (trodAll_cons_mk (Below.trod laidOut (by kernel_rfl) (of_decide_eq_true (by kernel_rfl)) k0 bel lt0) (trodAll_cons_mk (Below.trod laidOut (by kernel_rfl) (of_decide_eq_true (by kernel_rfl)) k1 bel lt1) (trodAll_cons_mk (Below.trod laidOut (by kernel_rfl) (of_decide_eq_true (by kernel_rfl)) k2 bel lt2) trodAll_mk0))), rfl, bel.frame _, fun h => by cases h⟩

theorem over : Rows.levelTellsRow.holds Try.pinned (OpenSpec.ofChange Rows.levelTellsSpec) :=
  OpenClaim.holds_of_wide 3 Try.f3 rfl rfl rfl rfl rfl rfl rfl ⟨rfl, rfl, rfl, rfl, rfl⟩ rfl rfl rfl rfl rfl (by kernel_rfl) Try.func3 (by kernel_rfl)
    (of_decide_eq_true (by kernel_rfl)) (by unfold Func.isWrapper; first | (rw [if_pos (by decide +kernel)]; kernel_rfl) | (rw [if_neg (by decide +kernel)]; exact ⟨rfl, rfl⟩))
    (fun os started H enc _ => lifted os started H enc)

/-- The statement. -/
theorem proved : Rows.LevelTellsSaid := over
#print axioms proved
end Go.Proofs.Ytdejljncodpkeaa.levelTells
