/-
  'skylight/skylightlaw05.LevelSums' returns true for every input, and the input reads afterwards as it read before. Conditions: none.
-/
import Derived.Test.YtdejljncodpkeaaRows
import Derived.WalkKit
import Derived.ProofKit
import Derived.OpenShut
import Derived.ShutString
import Derived.ChangeOld
import Derived.Below
import Derived.Test.YtdejljncodpkeaaOpen
import Derived.Test.YtdejljncodpkeaaLOne
namespace Go.Proofs.Ytdejljncodpkeaa.levelSums
open Go.Proofs Go.Proofs.Lm Go.Proofs.Op Go.Proofs.Rw
open Go.ChangeShapes Go.WideShapes Go.ChangeAt Go.RowKit
open Go.ChangeMaps (open_string shut_string)
set_option linter.unusedVariables false

theorem own : ownKnob Try.prog.godebug = none := by kernel_rfl
theorem laidOut : laidOutB Try.prog = true := by kernel_rfl

/-- A slice of integers that came in: nil, or a row of cells of its capacity, each fitting its kind. -/
def IsRow (k : IntKind) (w : World) (a : Option Addr) (len cap : Nat) (zs : List Int) : Prop :=
  (a = none ∧ len = 0 ∧ cap = 0 ∧ zs = []) ∨
  ∃ x, a = some x ∧ len ≤ cap ∧ cap ≤ maxLen ∧ zs.length = cap ∧ (∀ i, i < zs.length → w.cell? (x.add i) = some (.int k (zs.getD i 0))) ∧ ∀ n ∈ zs, (Lit.int k n).wf = true

theorem fit2_of {c : List Value} (h : Op.Fits [.u64, .u64, .u64] c) : ∃ x0 x1 x2 : Int, c = [.int .u64 x0, .int .u64 x1, .int .u64 x2] ∧ (Lit.int .u64 x0).wf = true ∧ (Lit.int .u64 x1).wf = true ∧ (Lit.int .u64 x2).wf = true := by
  match c, h with
  | [_, _, _], ⟨⟨x0, e0, e0w⟩, ⟨x1, e1, e1w⟩, ⟨x2, e2, e2w⟩, _⟩ =>
    subst e0; subst e1; subst e2
    exact ⟨x0, x1, x2, rfl, e0w, e1w, e2w⟩

theorem box_block {w wn : World} {o : Obj} (h : Below (w.alloc o).heap.size (w.alloc o) wn) : wn.heap[w.heap.size]? = some o := by
  rw [h.block _ (by simp)]
  exact heap_alloc_new w o
theorem box_below {w wn : World} {o : Obj} (h : Below (w.alloc o).heap.size (w.alloc o) wn) : Below w.heap.size w wn := ((Below.refl _ w).alloc (Nat.le_refl _) o).trans (h.mono (by simp))
open Go.Proofs.Lm (el two pairs wentN stayN leftN went stay one)

set_option maxRecDepth 100000 in
set_option maxHeartbeats 4000000 in
theorem walk (a0 : Option Addr) (len0 cap0 : Nat) (z0 : Nat → Nat → Int) (a1 : Option Addr) (len1 cap1 : Nat) (z1 : Nat → Nat → Int) (a2_0 a2_1 a2_2 : Int) (w : World) (w0 : Op.FlatRow [.u64, .u64] w a0 len0 cap0 z0) (w1 : Op.FlatRow [.u64, .u64] w a1 len1 cap1 z1) (w2_0 : (Lit.int .u64 a2_0).wf = true) (w2_1 : (Lit.int .u64 a2_1).wf = true) (w2_2 : (Lit.int .u64 a2_2).wf = true) :
    Calls Try.prog 5 #[.slice a0 len0 cap0, .slice a1 len1 cap1, .agg #[.int .u64 a2_0, .int .u64 a2_1, .int .u64 a2_2]] w fun e w' => e = .returned (.bool true) ∧ Below w.heap.size w w' := by
  obtain ⟨xs, hxl, hX, _⟩ := sp_of_row w0
  obtain ⟨ys, hyl, hY, _⟩ := sp_of_row w1
  subst hxl
  subst hyl
  have HX := Lib.hid hX
  have HY := Lib.hid hY
  clear w0 w1 hX hY
  obtain ⟨b200, b201⟩ := bounds_u64 w2_0
  obtain ⟨n0, rfl⟩ : ∃ m : Nat, a2_0 = m := ⟨a2_0.toNat, by omega⟩
  obtain ⟨b210, b211⟩ := bounds_u64 w2_1
  obtain ⟨n1, rfl⟩ : ∃ m : Nat, a2_1 = m := ⟨a2_1.toNat, by omega⟩
  obtain ⟨b220, b221⟩ := bounds_u64 w2_2
  obtain ⟨n2, rfl⟩ : ∃ m : Nat, a2_2 = m := ⟨a2_2.toNat, by omega⟩
  have ln0 : n0 < 18446744073709551616 := by omega
  have ln1 : n1 < 18446744073709551616 := by omega
  have ln2 : n2 < 18446744073709551616 := by omega
  clear w2_0 b200 b201 w2_1 b210 b211 w2_2 b220 b221
  obtain ⟨k, hk⟩ : ∃ k, n0 % 100 = k := ⟨_, rfl⟩
  obtain ⟨m, hm⟩ : ∃ m, n1 % 9007199254740992 = m := ⟨_, rfl⟩
  have ek : (n0 : Int) % 100 = k := by omega
  have em : (n1 : Int) % 9007199254740992 = m := by omega
  have hkl : k < 100 := by omega
  have hml : m < 9007199254740992 := by omega
  clear hk hm
  by_cases hc : xs.length ≤ 20 ∧ ys.length ≤ 20
  · obtain ⟨hc1, hc2⟩ := hc
    by_cases hl : xs.length ≤ k + 1
    · have hd : ¬ ((1 : Int) + k < xs.length) := by omega
      have hp := fun (W : World) (hb : Below w.heap.size w W) => push_any xs ys (1 + (k : Int)) m n2 (by omega) (by omega) (by omega) W w.heap.size a0 a1 cap0 cap1 (HX.out.below hb) (HY.out.below hb) hb.size
      have hroom : roomOf (1 + (k : Int)) = k + 1 := by unfold roomOf; omega
      simp only [hroom] at hp
      have f1 := Lm.sums (xs ++ ys).length m (k + 1) (by omega)
      have f2 := Lm.stayN_le (n := (xs ++ ys).length) (many := m) (room := k + 1)
      have f3 := Lm.least (xs ++ ys).length m (k + 1) (by omega)
      rw [← Lm.stay_len (xs ++ ys) n2] at f1 f2 f3
      rw [← Lm.went_len (xs ++ ys) n2] at f1 f3
      obtain ⟨st, hst⟩ : ∃ l, stay (xs ++ ys) n2 m (k + 1) = l := ⟨_, rfl⟩
      obtain ⟨wl, hwl⟩ : ∃ l, went (xs ++ ys) n2 m (k + 1) = l := ⟨_, rfl⟩
      obtain ⟨K, hK⟩ : ∃ l, leftN (xs ++ ys).length m (k + 1) = l := ⟨_, rfl⟩
      simp only [hst, hwl, hK] at hp f1 f2 f3
      rw [List.length_append] at f1
      have HP := Lib.hid hp
      have g1 : wl.length + K ≤ 9007199254741032 := by omega
      have q1 : ((2 * ((wl.length : Int) + K) + st.length) == ((xs.length : Int) + ys.length + m)) = true := by rw [beq_iff_eq]; omega
      have q2 : (st.length : Int) ≤ 1 + k := by omega
      have g2 : st.length ≤ 100 := by omega
      by_cases h0 : wl.length + K = 0
      · have q3 : ((wl.length : Int) + K == 0) = true := by rw [beq_iff_eq]; omega
        clear f1 f2 f3 hst hwl hK hp h0 hroom
        go_enter Try.func5, Try.ntmps5
        go_wp2_with (first
          | (go_at_call 8; refine (awake_any _).mono ?_; rintro e wn ⟨rfl, hn⟩; have hbx := box_block hn; have hlt := lt_of hbx; have s0 : wn.cell? ⟨w.heap.size, 0, none⟩ = some (.int .u64 n0) := (by simp [World.cell?, hbx]); have s1 : wn.cell? ⟨w.heap.size, 1, none⟩ = some (.int .u64 n1) := (by simp [World.cell?, hbx]); have s2 : wn.cell? ⟨w.heap.size, 2, none⟩ = some (.int .u64 n2) := (by simp [World.cell?, hbx]); have HB := Lib.hid (box_below hn); clear hbx hn)
          | (go_at_call 9; refine (come_yes _ _ hc1 hc2 _ _ _ _ _).mono ?_; rintro e wm ⟨rfl, rfl⟩)
          | (go_at_call 10; (with_reducible refine (HP.out _ HB.out).mono ?_); rintro e wp ⟨b1, b2, rfl, _, _, _, _, _, hb⟩; have HB2 := Lib.hid (thn HB.out hb); clear hb))
        go_ret
        exact ⟨rfl, HB2.out⟩
      · have q3 : ((wl.length : Int) + K == 0) = false := by rw [beq_eq_false_iff_ne]; omega
        have q4 : (1 : Int) + k - 1 ≤ st.length := by have := f3 h0; omega
        have q5 : (k : Int) ≤ st.length := by omega
        clear f1 f2 f3 hst hwl hK hp h0 hroom
        go_enter Try.func5, Try.ntmps5
        go_wp2_with (first
          | (go_at_call 8; refine (awake_any _).mono ?_; rintro e wn ⟨rfl, hn⟩; have hbx := box_block hn; have hlt := lt_of hbx; have s0 : wn.cell? ⟨w.heap.size, 0, none⟩ = some (.int .u64 n0) := (by simp [World.cell?, hbx]); have s1 : wn.cell? ⟨w.heap.size, 1, none⟩ = some (.int .u64 n1) := (by simp [World.cell?, hbx]); have s2 : wn.cell? ⟨w.heap.size, 2, none⟩ = some (.int .u64 n2) := (by simp [World.cell?, hbx]); have HB := Lib.hid (box_below hn); clear hbx hn)
          | (go_at_call 9; refine (come_yes _ _ hc1 hc2 _ _ _ _ _).mono ?_; rintro e wm ⟨rfl, rfl⟩)
          | (go_at_call 10; (with_reducible refine (HP.out _ HB.out).mono ?_); rintro e wp ⟨b1, b2, rfl, _, _, _, _, _, hb⟩; have HB2 := Lib.hid (thn HB.out hb); clear hb))
        go_ret
        exact ⟨rfl, HB2.out⟩
    · have hd : (1 : Int) + k < xs.length := by omega
      clear hl
      go_enter Try.func5, Try.ntmps5
      go_wp2_with (first
        | (go_at_call 8; refine (awake_any _).mono ?_; rintro e wn ⟨rfl, hn⟩; have hbx := box_block hn; have hlt := lt_of hbx; have s0 : wn.cell? ⟨w.heap.size, 0, none⟩ = some (.int .u64 n0) := (by simp [World.cell?, hbx]); have s1 : wn.cell? ⟨w.heap.size, 1, none⟩ = some (.int .u64 n1) := (by simp [World.cell?, hbx]); have s2 : wn.cell? ⟨w.heap.size, 2, none⟩ = some (.int .u64 n2) := (by simp [World.cell?, hbx]); have HB := Lib.hid (box_below hn); clear hbx hn)
        | (go_at_call 9; refine (come_yes _ _ hc1 hc2 _ _ _ _ _).mono ?_; rintro e wm ⟨rfl, rfl⟩))
      go_ret
      exact ⟨rfl, HB.out⟩
  · go_enter Try.func5, Try.ntmps5
    go_wp2_with (first
      | (go_at_call 8; refine (awake_any _).mono ?_; rintro e wn ⟨rfl, hn⟩; have hbx := box_block hn; have hlt := lt_of hbx; have s0 : wn.cell? ⟨w.heap.size, 0, none⟩ = some (.int .u64 n0) := (by simp [World.cell?, hbx]); have s1 : wn.cell? ⟨w.heap.size, 1, none⟩ = some (.int .u64 n1) := (by simp [World.cell?, hbx]); have s2 : wn.cell? ⟨w.heap.size, 2, none⟩ = some (.int .u64 n2) := (by simp [World.cell?, hbx]); have HB := Lib.hid (box_below hn); clear hbx hn)
      | (go_at_call 9; refine (come_no _ _ hc _ _ _ _ _).mono ?_; rintro e wm ⟨rfl, rfl⟩))
    go_ret
    exact ⟨rfl, HB.out⟩

set_option maxRecDepth 100000 in
theorem lifted (os : Os) (started : os.Started) (H : Type) (enc : TypeId × Value → H) :
    ReturnsInHanded {} Try.checked os 5 .any (Rows.levelSumsSpec.pre6 enc Try.prog Try.f5 Rows.levelSumsRow.domain false) (Rows.levelSumsSpec.post enc Try.prog Try.f5 false true false false) := by
  refine returnsInHanded_of_change (C := Try.checked) own started (by kernel_rfl) Try.func5
    (ChangeSpec.witness6 (enc := enc) (C := Try.checked) false ⟨#[], #[.slice none 0 0, .slice none 0 0, .agg #[.int .u64 0, .int .u64 0, .int .u64 0]], []⟩ 8 (by kernel_rfl) (by kernel_rfl) (by kernel_rfl) (by kernel_rfl)) ?_
  intro W base args ds gs before hval0 hW hcnd _
  have hval : ∀ (j : Nat) t v, Try.f5.params[j]? = some t → args[j]? = some v → Value.okWide Try.prog W .any base t v := hval0
  have hW' := hW
  obtain ⟨p, q, hA0, hV, rfl, hfz, hnd⟩ := hW
  have hA : DataW.TrodAll enc Try.prog W 0 (fun _ => true) true Try.f5.params.toList args.toList ds p := hA0
  rw [Try.params5] at hA hval
  obtain ⟨v0, vs0, d0, ds0, p0, q0, hargs, rfl, rfl, h0, r0⟩ := trodAll_cons hA
  obtain ⟨v1, vs1, d1, ds1, p1, q1, rfl, rfl, rfl, h1, r1⟩ := trodAll_cons r0
  obtain ⟨v2, vs2, d2, ds2, p2, q2, rfl, rfl, rfl, h2, r2⟩ := trodAll_cons r1
  obtain ⟨rfl, rfl, rfl⟩ := trodAll_nil r2
  obtain rfl : args = #[v0, v1, v2] := by cases args; simp_all
  obtain ⟨rfl, rfl⟩ := trodVars_none hV
  obtain ⟨a0, len0, cap0, rfl⟩ := okWide_slice Try.underlying22 (hval 0 22 v0 rfl rfl)
  have k0 := h0
  have lt0 : ∀ x ∈ p0, x.block < W.heap.size := by obtain ⟨m, hm⟩ := k0; exact DataW.trod_lt m _ _ _ hm
  obtain ⟨z0, w0⟩ := Op.open_flats (f := 9) (ks := [.u64, .u64]) Try.underlying22 (by kernel_rfl) (by kernel_rfl) (by decide) h0
  obtain ⟨a1, len1, cap1, rfl⟩ := okWide_slice Try.underlying22 (hval 1 22 v1 rfl rfl)
  have k1 := h1
  have lt1 : ∀ x ∈ p1, x.block < W.heap.size := by obtain ⟨m, hm⟩ := k1; exact DataW.trod_lt m _ _ _ hm
  obtain ⟨z1, w1⟩ := Op.open_flats (f := 9) (ks := [.u64, .u64]) Try.underlying22 (by kernel_rfl) (by kernel_rfl) (by decide) h1
  have k2 := h2
  have lt2 : ∀ x ∈ p2, x.block < W.heap.size := by obtain ⟨m, hm⟩ := k2; exact DataW.trod_lt m _ _ _ hm
  obtain ⟨c2, rfl, fit2⟩ := Op.open_flat (f := 9) (ks := [.u64, .u64, .u64]) (by kernel_rfl) (by kernel_rfl) (hval 2 37 v2 rfl rfl) h2
  obtain ⟨a2_0, a2_1, a2_2, rfl, w2_0, w2_1, w2_2⟩ := fit2_of fit2
  clear hA0 hval0
  refine (walk a0 len0 cap0 z0 a1 len1 cap1 z1 a2_0 a2_1 a2_2 W w0 w1 w2_0 w2_1 w2_2).mono fun e W' ⟨he, bel⟩ => ?_
  subst he
  exact ⟨_, rfl, _, _, _, [], _, [], hW', trodAll_mk1 (shut_bool Try.underlying4 _), (trodAll_cons_mk (Below.trod laidOut (by kernel_rfl) (of_decide_eq_true (by kernel_rfl)) k0 bel lt0) (trodAll_cons_mk (Below.trod laidOut (by kernel_rfl) (of_decide_eq_true (by kernel_rfl)) k1 bel lt1) (trodAll_cons_mk (Below.trod laidOut (by kernel_rfl) (of_decide_eq_true (by kernel_rfl)) k2 bel lt2) trodAll_mk0))), rfl, bel.frame _, fun h => by cases h⟩

theorem over : Rows.levelSumsRow.holds Try.pinned (OpenSpec.ofChange Rows.levelSumsSpec) :=
  OpenClaim.holds_of_wide 5 Try.f5 rfl rfl rfl rfl rfl rfl rfl ⟨rfl, rfl, rfl, rfl, rfl⟩ rfl rfl rfl rfl rfl (by kernel_rfl) Try.func5 (by kernel_rfl)
    (of_decide_eq_true (by kernel_rfl)) (by unfold Func.isWrapper; first | (rw [if_pos (by decide +kernel)]; kernel_rfl) | (rw [if_neg (by decide +kernel)]; exact ⟨rfl, rfl⟩))
    (fun os started H enc _ => lifted os started H enc)

/-- The statement. -/
theorem proved : Rows.LevelSumsSaid := over
#print axioms proved
end Go.Proofs.Ytdejljncodpkeaa.levelSums
