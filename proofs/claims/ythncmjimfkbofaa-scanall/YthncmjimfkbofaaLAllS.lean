/-
  'skylight/skylightlaw13.ScanAll' returns true for every input, and the input reads afterwards as it read before. Conditions: none.
-/
import Derived.Test.YthncmjimfkbofaaRows
import Derived.WalkKit
import Derived.ProofKit
import Derived.OpenShut
import Derived.ShutString
import Derived.ChangeOld
import Derived.Below
import Derived.Test.YthncmjimfkbofaaJ02
import Derived.Test.YthncmjimfkbofaaJ18
namespace Go.Proofs.Ythncmjimfkbofaa.scanAll
open Go.Proofs Go.Proofs.Lm Go.Proofs.Lh Go.Proofs.Rn Go.Proofs.Op Go.Proofs.Rw Go.Proofs.Rf Go.Proofs.Bu Go.Proofs.Sc Go.Proofs.Wm
open Go.ChangeShapes Go.WideShapes Go.ChangeAt Go.RowKit
open Go.ChangeMaps (open_string shut_string)
set_option linter.unusedVariables false

theorem own : ownKnob Try.prog.godebug = none := by kernel_rfl
theorem laidOut : laidOutB Try.prog = true := by kernel_rfl

/-- A slice of integers that came in: nil, or a row of cells of its capacity, each fitting its kind. -/
def IsRow (k : IntKind) (w : World) (a : Option Addr) (len cap : Nat) (zs : List Int) : Prop :=
  (a = none ∧ len = 0 ∧ cap = 0 ∧ zs = []) ∨
  ∃ x, a = some x ∧ len ≤ cap ∧ cap ≤ maxLen ∧ zs.length = cap ∧ (∀ i, i < zs.length → w.cell? (x.add i) = some (.int k (zs.getD i 0))) ∧ ∀ n ∈ zs, (Lit.int k n).wf = true

theorem fit1_of {c : List Value} (h : Op.Fits [.u64, .u64] c) : ∃ x0 x1 : Int, c = [.int .u64 x0, .int .u64 x1] ∧ (Lit.int .u64 x0).wf = true ∧ (Lit.int .u64 x1).wf = true := by
  cases c with
  | nil => exact h.elim
  | cons y0 c =>
  have g0 := h.1
  replace h := h.2
  cases c with
  | nil => exact h.elim
  | cons y1 c =>
  have g1 := h.1
  replace h := h.2
  cases c with
  | cons y c => exact h.elim
  | nil =>
  obtain ⟨x0, e0, e0w⟩ := g0
  obtain ⟨x1, e1, e1w⟩ := g1
  exact ⟨x0, x1, by rw [e0, e1], e0w, e1w⟩

open Go.RowKit Go.Shelf Go.Proofs.Rw Go.Proofs.Lh Go.Proofs.Bu Go.Proofs.Sc Go.Proofs.Wm
set_option linter.unusedVariables false
theorem all_of {t s f : Nat} (h : f + s = t + 1) (l : List Ev) : sumP (ofT f t) l = sumP (inB t s) l := sumP_congr fun e _ => by
  unfold ofT inB
  by_cases h1 : f ≤ e.1 <;> by_cases h2 : e.1 ≤ t <;> simp [h1, h2] <;> omega
theorem tot_take {m : List It} {i : Nat} (hi : i < m.length) : totI (m.take (i + 1)) = totI (m.take i) + m[i].2 := by
  rw [List.take_succ_eq_append_getElem hi]
  unfold totI
  rw [List.map_append, List.sum_append, List.map_cons, List.map_nil, List.sum_cons, List.sum_nil, Nat.add_zero]

set_option maxRecDepth 100000 in
set_option maxHeartbeats 4000000 in
theorem walk (a0 : Option Addr) (len0 cap0 : Nat) (z0 : Nat → Nat → Int) (a1_0 a1_1 : Int) (w : World) (w0 : Op.FlatRow [.u64, .u64, .u64] w a0 len0 cap0 z0) (w1_0 : (Lit.int .u64 a1_0).wf = true) (w1_1 : (Lit.int .u64 a1_1).wf = true) :
    Calls Try.prog 7 #[.slice a0 len0 cap0, .agg #[.int .u64 a1_0, .int .u64 a1_1]] w fun e w' => e = .returned (.bool true) ∧ Below w.heap.size w w' := by
  obtain ⟨xs, hxl, hx, hxv⟩ := ev_of_row w0
  obtain ⟨q0l, q0u⟩ := bounds_u64 w1_0
  obtain ⟨q1l, q1u⟩ := bounds_u64 w1_1
  obtain ⟨n0, rfl⟩ : ∃ l : Nat, a1_0 = l := ⟨a1_0.toNat, by omega⟩
  obtain ⟨n1, rfl⟩ : ∃ l : Nat, a1_1 = l := ⟨a1_1.toNat, by omega⟩
  have hn0 : n0 < 18446744073709551616 := by omega
  have hn1 : n1 < 18446744073709551616 := by omega
  clear w0 w1_0 w1_1
  obtain ⟨W0, hW0⟩ : ∃ W, w.alloc (.cells #[.int .u64 (n0 : Int), .int .u64 (n1 : Int)] 45) = W := ⟨_, rfl⟩
  have p0 : W0.heap[w.heap.size]? = some (.cells #[.int .u64 (n0 : Int), .int .u64 (n1 : Int)] 45) := by rw [← hW0]; exact heap_alloc_new w _
  have b0 : Below w.heap.size w W0 := by rw [← hW0]; exact (Below.refl _ w).alloc (Nat.le_refl _) _
  have l0 : w.heap.size < W0.heap.size := lt_of p0
  have x0 : W0.cell? ⟨w.heap.size, 0, none⟩ = some (.int .u64 (n0 : Int)) := by simp [World.cell?, p0]
  have x1 : W0.cell? ⟨w.heap.size, 1, none⟩ = some (.int .u64 (n1 : Int)) := by simp [World.cell?, p0]
  have hx0 := (hx.below b0).mono b0.size
  have HW0 := Lib.hid hW0
  have B0 := Lib.hid b0
  have HX0 := Lib.hid hx0
  have CC := Lib.hid (And.intro x0 (And.intro x1 l0))
  clear hW0 p0 b0 x0 x1 l0 hx0 hx
  by_cases hlen : (len0 : Int) ≤ 60
  · obtain ⟨t, ht⟩ : ∃ t, n0 % 4611686018427387904 = t := ⟨_, rfl⟩
    have ht1 : t < 4611686018427387904 := by omega
    obtain ⟨s, hs⟩ : ∃ s, 1 + n1 % (t + 1) = s := ⟨_, rfl⟩
    have hs1 : 1 ≤ s ∧ s ≤ t + 1 := by have := Nat.mod_lt n1 (show 0 < t + 1 by omega); omega
    obtain ⟨f, hf⟩ : ∃ f, f + s = t + 1 := ⟨t + 1 - s, by omega⟩
    have hk1 := fun (W : World) (h : Lies evL W W.heap.size (.slice a0 len0 cap0) xs) => scSum_any xs (by omega) hxv t s (by omega) W a0 cap0 (by rw [hxl]; exact h)
    have hk2 := fun (W : World) (h : Lies evL W W.heap.size (.slice a0 len0 cap0) xs) => scKeys_any xs (by omega) hxv f t W a0 cap0 (by rw [hxl]; exact h)
    obtain ⟨k1, -, -⟩ := keys_is (ofT f t) xs fun e he => (hxv e he).2.2
    have hlm : (keysI (ofT f t) xs).length ≤ 1000000 := by have := keys_len (ofT f t) xs xs.length (Nat.le_refl _); rw [List.take_length] at this; omega
    have hto := keys_tot (ofT f t) xs fun e he => (hxv e he).2.2
    rw [all_of hf] at hto
    obtain ⟨m, hm⟩ : ∃ m, keysI (ofT f t) xs = m := ⟨_, rfl⟩
    simp only [hxl, ← hto] at hk1
    simp only [hxl, hm] at hk2
    rw [hm] at hlm k1
    simp only [hm] at hk1
    obtain ⟨M, hM⟩ : ∃ M, m.length = M := ⟨_, rfl⟩
    simp only [hM] at hk2 hlm
    have rise : ∀ i (h : i + 1 < m.length), (m[i]'(Nat.lt_of_succ_lt h)).1 < m[i + 1].1 := fun i h => List.pairwise_iff_getElem.1 k1 i (i + 1) (Nat.lt_of_succ_lt h) h (Nat.lt_succ_self i)
    have K1 := Lib.hid hk1
    have K2 := Lib.hid hk2
    have RI := Lib.hid rise
    have HM := Lib.hid hM
    have e1 := Lib.hid (show (n0 : Int) % 4611686018427387904 = (t : Int) by omega)
    have e2 := Lib.hid (show (1 : Int) + (n1 : Int) % ((t : Int) + 1) = (s : Int) by rw [← hs]; simp)
    have e3 := Lib.hid (show IntKind.u64.wrap (IntKind.u64.wrap ((t : Int) - (s : Int)) + 1) = (f : Int) by
      rw [show (t : Int) - (s : Int) = (f : Int) - 1 by omega]
      simp [IntKind.wrap, IntKind.signed, IntKind.bits]
      omega)
    clear hk1 hk2 rise hM hm hto k1 hxl hxv ht hs
    go_enter Try.func7, Try.ntmps7
    go_upto_region 1 with (fail)
    rw [HW0.out]
    go_upto_region 2 with (go_at_call 18; (with_reducible refine (sawake_any _).mono ?_); rintro e w1 ⟨rfl, hb⟩; have HB1 := Lib.hid (thn B0.out hb); have HX1 := Lib.hid ((HX0.out.below hb).mono hb.size); have HC1 := Lib.hid hb; clear hb)
    obtain ⟨x0, x1, l0⟩ := CC.out
    have X0 := (HC1.out.cell (p := ⟨w.heap.size, 0, none⟩) l0).trans x0
    have X1 := (HC1.out.cell (p := ⟨w.heap.size, 1, none⟩) l0).trans x1
    have l0' := Nat.lt_of_lt_of_le l0 HC1.out.size
    clear x0 x1 l0
    have e4 := Lib.hid (show IntKind.u64.wrap (s : Int) = (s : Int) by simp [IntKind.wrap, IntKind.signed, IntKind.bits]; omega)
    go_upto_region 5 with (fail)
    rw [e1.out]
    go_upto_region 6 with (fail)
    rw [e2.out, e4.out]
    have e3' := e3.out
    have hts : (s : Int) ≤ (t : Int) + 1 := by omega
    go_upto_region 7 with (go_at_call 24; (with_reducible refine (K2.out _ HX1.out).mono ?_); rintro e w2 ⟨A2, c2, rfl, hl, hb⟩; have HB2 := Lib.hid (thn HB1.out hb); have HX2 := Lib.hid ((HX1.out.below hb).mono hb.size); have HL2 := Lib.hid hl; clear hb hl)
    clear X0 X1 l0' e3' CC
    go_wp2
    go_loopw [9, 10] (fun s9 s10 wr => ∃ i : Nat, s10 = .int .i64 (i : Int) ∧ i ≤ M ∧ s9 = .int .u64 ((totI (m.take i) % M64 : Nat) : Int) ∧ Hid (Below w2.heap.size w2 wr)) (fun _ s10 _ => M - (intOf s10).toNat)
    case atStart => exact ⟨0, rfl, Nat.zero_le _, rfl, Lib.hid (Below.refl _ _)⟩
    case round =>
      obtain ⟨i, rfl, hi, rfl, HB⟩ := hrel
      by_cases hlt : i < M
      · have hil : i < m.length := by rw [HM.out]; exact hlt
        have HL := (HL2.out.below HB.out)
        rw [← HM.out] at HL
        obtain ⟨b, off, rfl, hb, -, hc⟩ := sp_at HL (by omega)
        rw [HM.out] at HL
        obtain ⟨q0, q1⟩ := hc i hil
        have lb : b < wr.heap.size := Nat.lt_of_lt_of_le hb HB.out.size
        have hst := tot_take hil
        obtain ⟨z, hz⟩ : ∃ z, totI (m.take i) % M64 = z := ⟨_, rfl⟩
        have hadd := u64_add z m[i].2
        have hnew : ((z + m[i].2) % M64) = totI (m.take (i + 1)) % M64 := by rw [hst, ← hz]; simp
        rw [hnew] at hadd
        rw [hz]
        have hrise : ∀ q (h : q + 1 = i), (m[q]'(by omega)).1 < m[i].1 := fun q h => by
          subst h
          exact RI.out q hil
        by_cases hi0 : i = 0
        · subst hi0
          generalize m[0] = x at *
          obtain ⟨x1, x2⟩ := x
          dsimp only at q0 q1 hadd
          have Q0 := fun pq : BelowBy wr => cell_below lb q0 pq
          have HADD := Lib.hid hadd
          clear hc hst hnew hadd hz hrise HL
          go_upto_region 12 with (fail)
          refine wp_region_below (by kernel_rfl) (by kernel_rfl) ?_
          repeat (go_big_quiet_step (fail))
          refine wpQuiet_nil ?_
          intro _ hw'
          obtain ⟨pq, hw''⟩ := hw'
          subst hw''
          have HB3 := Lib.hid (thn HB.out pq.h)
          go_wp2
          refine ⟨⟨0 + 1, by go_num, hlt, by rw [← HADD.out], HB3⟩, by simp [intOf]; omega⟩
        · obtain ⟨q, hq⟩ : ∃ q, q + 1 = i := ⟨i - 1, by omega⟩
          have hr := hrise q hq
          have hql : q < m.length := by omega
          obtain ⟨y0, y1⟩ := hc q hql
          have hqz : (i : Int) - 1 = (q : Int) := by omega
          have hqN : q < M := by omega
          have hqN' : (q : Int) < (M : Int) := by omega
          have hi0' : decide ((0 : Int) < (i : Int)) = true := by simp; omega
          have hi0n : decide (0 < i) = true := by simp; omega
          obtain ⟨x, hx⟩ : ∃ x, m[i] = x := ⟨_, rfl⟩
          obtain ⟨y, hy⟩ : ∃ y, m[q] = y := ⟨_, rfl⟩
          rw [hx] at q0 q1 hadd hr
          rw [hy] at y0 y1 hr
          obtain ⟨x1, x2⟩ := x
          obtain ⟨z1, z2⟩ := y
          dsimp only at q0 q1 hadd y0 y1 hr
          have hrz : decide ((x1 : Int) ≤ (z1 : Int)) = false := by simp; omega
          have hrn : decide (x1 ≤ z1) = false := by simp; omega
          have Q0 := fun pq : BelowBy wr => cell_below lb q0 pq
          have Y0 := fun pq : BelowBy wr => cell_below lb y0 pq
          have HADD := Lib.hid hadd
          have hw1 : IntKind.i64.wrap (q : Int) = (q : Int) := by rw [IntKind.wrap_i64]; omega
          clear hc hst hnew hadd hz hrise HL hx hy y0 y1 hql hil hr hq
          go_upto_region 12 with (fail)
          refine wp_region_below (by kernel_rfl) (by kernel_rfl) ?_
          repeat (go_big_quiet_step (fail))
          refine wpQuiet_nil ?_
          intro _ hw'
          obtain ⟨pq, hw''⟩ := hw'
          subst hw''
          have HB3 := Lib.hid (thn HB.out pq.h)
          go_wp2
          refine ⟨⟨i + 1, by go_num, hlt, by rw [← HADD.out], HB3⟩, by simp [intOf]; omega⟩
      · have e : i = M := by omega
        subst e
        have htk : m.take m.length = m := List.take_length
        rw [HM.out] at htk
        rw [htk]
        obtain ⟨z, hz⟩ : ∃ z, totI m % M64 = z := ⟨_, rfl⟩
        have hk := K1.out
        rw [hz] at hk ⊢
        have HK := Lib.hid hk
        have HX := Lib.hid ((HX2.out.below HB.out).mono HB.out.size)
        clear hk hz htk
        go_wp2_with (go_at_call 19; (with_reducible refine (HK.out _ HX.out).mono ?_); rintro e w3 ⟨rfl, hb⟩; have HB3 := Lib.hid (thn HB.out hb); clear hb)
        go_ret
        exact ⟨rfl, thn HB2.out HB3.out⟩
  · go_enter Try.func7, Try.ntmps7
    go_upto_region 1 with (fail)
    rw [HW0.out]
    go_wp2_with (go_at_call 18; (with_reducible refine (sawake_any _).mono ?_); rintro e w1 ⟨rfl, hb⟩; have HB1 := Lib.hid (thn B0.out hb); have HX1 := Lib.hid ((HX0.out.below hb).mono hb.size); have HC1 := Lib.hid hb; clear hb)
    go_ret
    exact ⟨rfl, HB1.out⟩

set_option maxRecDepth 100000 in
theorem lifted (os : Os) (started : os.Started) (H : Type) (enc : TypeId × Value → H) :
    ReturnsInHanded {} Try.checked os 7 .any (Rows.scanAllSpec.pre6 enc Try.prog Try.f7 Rows.scanAllRow.domain false) (Rows.scanAllSpec.post enc Try.prog Try.f7 false true false false) := by
  refine returnsInHanded_of_change (C := Try.checked) own started (by kernel_rfl) Try.func7
    (ChangeSpec.witness6 (enc := enc) (C := Try.checked) false ⟨#[], #[.slice none 0 0, .agg #[.int .u64 0, .int .u64 0]], []⟩ 8 (by kernel_rfl) (by kernel_rfl) (by kernel_rfl) (by kernel_rfl)) ?_
  intro W base args ds gs before hval0 hW hcnd _
  have hval : ∀ (j : Nat) t v, Try.f7.params[j]? = some t → args[j]? = some v → Value.okWide Try.prog W .any base t v := hval0
  have hW' := hW
  obtain ⟨p, q, hA0, hV, rfl, hfz, hnd⟩ := hW
  have hA : DataW.TrodAll enc Try.prog W 0 (fun _ => true) true Try.f7.params.toList args.toList ds p := hA0
  rw [Try.params7] at hA hval
  obtain ⟨v0, vs0, d0, ds0, p0, q0, hargs, rfl, rfl, h0, r0⟩ := trodAll_cons hA
  obtain ⟨v1, vs1, d1, ds1, p1, q1, rfl, rfl, rfl, h1, r1⟩ := trodAll_cons r0
  obtain ⟨rfl, rfl, rfl⟩ := trodAll_nil r1
  obtain rfl : args = #[v0, v1] := by cases args; simp_all
  obtain ⟨rfl, rfl⟩ := trodVars_none hV
  obtain ⟨a0, len0, cap0, rfl⟩ := okWide_slice Try.underlying27 (hval 0 27 v0 rfl rfl)
  have k0 := h0
  have lt0 : ∀ x ∈ p0, x.block < W.heap.size := by obtain ⟨m, hm⟩ := k0; exact DataW.trod_lt m _ _ _ hm
  obtain ⟨z0, w0⟩ := Op.open_flats (f := 9) (ks := [.u64, .u64, .u64]) Try.underlying27 (by kernel_rfl) (by kernel_rfl) (by decide) h0
  have k1 := h1
  have lt1 : ∀ x ∈ p1, x.block < W.heap.size := by obtain ⟨m, hm⟩ := k1; exact DataW.trod_lt m _ _ _ hm
  obtain ⟨c1, rfl, fit1⟩ := Op.open_flat (f := 9) (ks := [.u64, .u64]) (by kernel_rfl) (by kernel_rfl) (hval 1 45 v1 rfl rfl) h1
  obtain ⟨a1_0, a1_1, rfl, w1_0, w1_1⟩ := fit1_of fit1
  clear hA0 hval0
  refine (walk a0 len0 cap0 z0 a1_0 a1_1 W w0 w1_0 w1_1).mono fun e W' ⟨he, bel⟩ => ?_
  subst he
  exact ⟨_, rfl, _, _, _, [], _, [], hW', trodAll_mk1 (shut_bool Try.underlying4 _), (trodAll_cons_mk (Below.trod laidOut (by kernel_rfl) (of_decide_eq_true (by kernel_rfl)) k0 bel lt0) (trodAll_cons_mk (Below.trod laidOut (by kernel_rfl) (of_decide_eq_true (by kernel_rfl)) k1 bel lt1) trodAll_mk0)), rfl, bel.frame _, fun h => by cases h⟩

theorem over : Rows.scanAllRow.holds Try.pinned (OpenSpec.ofChange Rows.scanAllSpec) :=
  OpenClaim.holds_of_wide 7 Try.f7 rfl rfl rfl rfl rfl rfl rfl ⟨rfl, rfl, rfl, rfl, rfl⟩ rfl rfl rfl rfl rfl (by kernel_rfl) Try.func7 (by kernel_rfl)
    (of_decide_eq_true (by kernel_rfl)) (by unfold Func.isWrapper; first | (rw [if_pos (by decide +kernel)]; kernel_rfl) | (rw [if_neg (by decide +kernel)]; exact ⟨rfl, rfl⟩))
    (fun os started H enc _ => lifted os started H enc)

/-- The statement. -/
theorem proved : Rows.ScanAllSaid := over
#print axioms proved
end Go.Proofs.Ythncmjimfkbofaa.scanAll
