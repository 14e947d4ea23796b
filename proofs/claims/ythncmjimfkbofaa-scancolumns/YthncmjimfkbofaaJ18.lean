/- The contract of the document's In. · The law's awake. -/
import Derived.Test.YthncmjimfkbofaaJ17
import Derived.Test.YthncmjimfkbofaaJ16
section
/- The contract of the document's In. -/
namespace Go.Proofs.Ythncmjimfkbofaa
set_option linter.unusedVariables false
open Go.RowKit Go.Shelf Go.Proofs.Rw Go.Proofs.Lh Go.Proofs.Bu Go.Proofs.Sc Go.Proofs.Wm Go.Proofs.Rf Go.Maps

set_option maxRecDepth 100000 in
set_option maxHeartbeats 4000000 in
theorem rIn_any (l : List Ev) (hl : l.length ≤ 1000000) (hv : U64s l) (t s : Nat) (ht : t < 18446744073709551616) (sa sb : Nat) (hsa : sa < 18446744073709551616) (hsb : sb < 18446744073709551616) (k g : Int) (k0 : -9223372036854775808 ≤ k) (k1 : k ≤ 9223372036854775807)
    (w : World) (A : Option Addr) (c : Nat) (h : Lies evL w w.heap.size (.slice A l.length c) l) :
    Calls Try.prog 22 #[.slice A l.length c, .int .u64 (t : Int), .int .u64 (s : Int), .agg #[.int .u64 (sa : Int), .int .u64 (sb : Int), .int .i64 k, .int .i64 g]] w fun e w' => e = .returned (.int .u64 ((sumP (fun e => inB t s e && decide (col sa sb e.2.1 k = g)) l % M64 : Nat) : Int)) ∧ Below w.heap.size w w' := by
  have hw1 := fun e W => rwithin_any e t s ht W
  have hw2 := fun e (he : e ∈ l) W => rColumn_any sa sb e.2.1 hsa hsb (hv e he).2.1 k k0 k1 W
  obtain ⟨W0, hW0⟩ : ∃ W, w.alloc (.cells #[.int .u64 (sa : Int), .int .u64 (sb : Int), .int .i64 k, .int .i64 g] 49) = W := ⟨_, rfl⟩
  have p0 : W0.heap[w.heap.size]? = some (.cells #[.int .u64 (sa : Int), .int .u64 (sb : Int), .int .i64 k, .int .i64 g] 49) := by rw [← hW0]; exact heap_alloc_new w _
  have b0 : Below w.heap.size w W0 := by rw [← hW0]; exact (Below.refl _ w).alloc (Nat.le_refl _) _
  have x0 : W0.cell? ⟨w.heap.size, 0, none⟩ = some (.int .u64 (sa : Int)) := by simp [World.cell?, p0]
  have x1 : W0.cell? ⟨w.heap.size, 1, none⟩ = some (.int .u64 (sb : Int)) := by simp [World.cell?, p0]
  have x2 : W0.cell? ⟨w.heap.size, 2, none⟩ = some (.int .i64 k) := by simp [World.cell?, p0]
  have x3 : W0.cell? ⟨w.heap.size, 3, none⟩ = some (.int .i64 g) := by simp [World.cell?, p0]
  have l0 : w.heap.size < W0.heap.size := lt_of p0
  obtain ⟨bx, hbx⟩ : ∃ b, w.heap.size = b := ⟨_, rfl⟩
  obtain ⟨N, hN⟩ : ∃ N, l.length = N := ⟨_, rfl⟩
  obtain ⟨p, hp⟩ : ∃ p, inB t s = p := ⟨_, rfl⟩
  obtain ⟨cc, hcc⟩ : ∃ cc : Nat → Int, (fun x => col sa sb x k) = cc := ⟨_, rfl⟩
  have hcc2 : ∀ x, col sa sb x k = cc x := fun x => by rw [← hcc]
  simp only [hcc2] at hw2 ⊢
  rw [hN] at h hl ⊢
  rw [hp] at hw1 ⊢
  obtain ⟨q, hq⟩ : ∃ q : Ev → Bool, (fun e => p e && decide (cc e.2.1 = g)) = q := ⟨_, rfl⟩
  have hq2 : ∀ e, q e = (p e && decide (cc e.2.1 = g)) := fun e => by rw [← hq]
  rw [hq]
  have HN := Lib.hid hN
  have HL := Lib.hid h
  have H1 := Lib.hid hw1
  have H2 := Lib.hid hw2
  have HQ := Lib.hid hq2
  have HX := Lib.hid (And.intro x0 (And.intro x1 (And.intro x2 (And.intro x3 l0))))
  have B0 := Lib.hid b0
  have HW0 := Lib.hid hW0
  rw [hbx] at HX
  clear hw1 hw2 h hN hp ht hcc hcc2 hq hq2 x0 x1 x2 x3 l0 b0 hW0 p0 hv k0 k1
  go_enter Try.func22, Try.ntmps22
  go_upto_region 1 with (fail)
  rw [HW0.out]
  go_wp2
  try rw [hbx]
  go_loopw [9, 10] (fun s9 s10 wr => ∃ j : Nat, s10 = .int .i64 (j : Int) ∧ j ≤ N ∧ s9 = .int .u64 ((sumP q (l.take j) % M64 : Nat) : Int) ∧ Hid (Below W0.heap.size W0 wr)) (fun _ s10 _ => N - (intOf s10).toNat)
  case atStart => exact ⟨0, rfl, Nat.zero_le _, rfl, Lib.hid (Below.refl _ _)⟩
  case round =>
    obtain ⟨j, rfl, hj, rfl, HB⟩ := hrel
    by_cases hlt : j < N
    · have hjl : j < l.length := by rw [HN.out]; exact hlt
      have HB' := Lib.hid (thn B0.out HB.out)
      obtain ⟨b, off, rfl, hb, -, hc⟩ := ev_at (HL.out.below HB'.out) (by omega)
      obtain ⟨q0, q1, q2⟩ := hc j hjl
      have hbb : b < wr.heap.size := by have := HB'.out.size; omega
      have hstep := take_sum (q := q) hjl
      have hmem := List.getElem_mem hjl
      obtain ⟨x, hx⟩ : ∃ x, l[j] = x := ⟨_, rfl⟩
      rw [hx] at q0 q1 q2 hstep hmem
      have hcall := H1.out x
      have hcol := H2.out x hmem
      have hqx := HQ.out x
      obtain ⟨y0, y1, y2, y3, ly⟩ := HX.out
      have lyr : bx < wr.heap.size := Nat.lt_of_lt_of_le ly HB.out.size
      have Y0 := fun pq : BelowBy wr => cell_below lyr ((HB.out.cell (p := ⟨bx, 0, none⟩) ly).trans y0) pq
      have Y1 := fun pq : BelowBy wr => cell_below lyr ((HB.out.cell (p := ⟨bx, 1, none⟩) ly).trans y1) pq
      have Y2 := fun pq : BelowBy wr => cell_below lyr ((HB.out.cell (p := ⟨bx, 2, none⟩) ly).trans y2) pq
      have Y3 := fun pq : BelowBy wr => cell_below lyr ((HB.out.cell (p := ⟨bx, 3, none⟩) ly).trans y3) pq
      have Q0 := fun pq : BelowBy wr => cell_below hbb q0 pq
      have Q1 := fun pq : BelowBy wr => cell_below hbb q1 pq
      have Q2 := fun pq : BelowBy wr => cell_below hbb q2 pq
      obtain ⟨z, hz⟩ : ∃ z, sumP q (l.take j) % M64 = z := ⟨_, rfl⟩
      obtain ⟨qb, hqb⟩ : ∃ qb, p x = qb := ⟨_, rfl⟩
      rw [hqb] at hcall hqx
      rw [hz]
      have hadd := u64_add z x.2.2
      obtain ⟨v, hvc⟩ : ∃ v, cc x.2.1 = v := ⟨_, rfl⟩
      rw [hvc] at hcol hqx
      obtain ⟨ex, ey, ez⟩ := x
      dsimp only [evS] at hcall hcol Q0 Q1 Q2 hstep hadd
      have HC := Lib.hid hcall
      have HCOL := Lib.hid hcol
      have HST := Lib.hid hstep
      have HADD := Lib.hid hadd
      have HQX := Lib.hid hqx
      clear hc hx hcall hstep hqb hjl hadd hmem hcol hvc hqx q0 q1 q2 y0 y1 y2 y3 lyr ly
      have skip : q (ex, ey, ez) = false → sumP q (l.take (j + 1)) % M64 = z := fun hf => by rw [HST.out, hf, ← hz]; simp
      have take : q (ex, ey, ez) = true → IntKind.u64.wrap ((z : Int) + (ez : Int)) = ((sumP q (l.take (j + 1)) % M64 : Nat) : Int) := fun hf => by
        rw [HADD.out, HST.out, hf, ← hz]
        simp
      have SKIP := Lib.hid skip
      have TAKE := Lib.hid take
      clear skip take hz
      cases qb
      · go_upto_region 5 with (fail)
        refine wp_region_below (by kernel_rfl) (by kernel_rfl) ?_
        repeat (go_big_quiet_step (first
          | (go_at_call 42; exact below_of (HC.out _))))
        refine wpQuiet_nil ?_
        intro _ hw'
        obtain ⟨pq, hw''⟩ := hw'
        subst hw''
        have HB1 := Lib.hid (HB.out.trans (pq.h.mono HB.out.size))
        have hs := SKIP.out (by rw [HQX.out]; rfl)
        go_wp2
        refine ⟨⟨j + 1, by go_num, hlt, by rw [hs], HB1⟩, by simp [intOf]; omega⟩
      · by_cases hvg : v = g
        · subst hvg
          go_upto_region 5 with (fail)
          refine wp_region_below (by kernel_rfl) (by kernel_rfl) ?_
          repeat (go_big_quiet_step (first
            | (go_at_call 42; exact below_of (HC.out _))
            | (go_at_call 26; exact below_of (HCOL.out _))))
          refine wpQuiet_nil ?_
          intro _ hw'
          obtain ⟨pq, hw''⟩ := hw'
          subst hw''
          have q2 := Q2 pq
          have HB1 := Lib.hid (HB.out.trans (pq.h.mono HB.out.size))
          have HS := Lib.hid (TAKE.out (by rw [HQX.out]; simp))
          go_wp2
          refine ⟨⟨j + 1, by go_num, hlt, by rw [← HS.out], HB1⟩, by simp [intOf]; omega⟩
        · have hvd : decide (v = g) = false := by simpa using hvg
          have hvb : (v == g) = false := by simpa using hvg
          go_upto_region 5 with (fail)
          refine wp_region_below (by kernel_rfl) (by kernel_rfl) ?_
          repeat (go_big_quiet_step (first
            | (go_at_call 42; exact below_of (HC.out _))
            | (go_at_call 26; exact below_of (HCOL.out _))))
          refine wpQuiet_nil ?_
          intro _ hw'
          obtain ⟨pq, hw''⟩ := hw'
          subst hw''
          have HB1 := Lib.hid (HB.out.trans (pq.h.mono HB.out.size))
          have hs := SKIP.out (by rw [HQX.out]; simp [hvg])
          go_wp2
          refine ⟨⟨j + 1, by go_num, hlt, by rw [hs], HB1⟩, by simp [intOf]; omega⟩
    · have e : j = N := by omega
      subst e
      have ht : l.take j = l := List.take_of_length_le (by rw [HN.out]; exact Nat.le_refl _)
      rw [ht]
      go_wp2
      go_ret
      exact ⟨rfl, thn B0.out HB.out⟩
end Go.Proofs.Ythncmjimfkbofaa
end
section
/- The law's awake. -/
namespace Go.Proofs.Ythncmjimfkbofaa
set_option linter.unusedVariables false
open Go.RowKit Go.Shelf Go.Proofs.Rw Go.Proofs.Lh Go.Proofs.Bu Go.Proofs.Sc Go.Proofs.Wm Go.Proofs.Rf Go.Maps
attribute [local go_sem] item_eql item_neq item_guard

def awkL : List Ev := [(3, 7, 1), (5, 7, 2), (6, 1, 4)]
theorem awk_u64 : U64s awkL := by unfold awkL; decide
theorem awk_keys (W : World) (b : Nat) (h : Lies evL W W.heap.size (.slice (some ⟨b, 0, none⟩) 3 3) awkL) :
    Calls Try.prog 24 #[.slice (some ⟨b, 0, none⟩) 3 3, .int .u64 3, .int .u64 6] W fun e w' => ∃ g o c', e = .returned (.slice (some ⟨g, o, none⟩) 2 c') ∧ g < w'.heap.size ∧ w'.cell? ⟨g, o, none⟩ = some (.int .u64 1) ∧ w'.cell? ⟨g, o + 1, none⟩ = some (.int .u64 4) ∧ w'.cell? ⟨g, o + 2, none⟩ = some (.int .u64 7) ∧ w'.cell? ⟨g, o + 3, none⟩ = some (.int .u64 3) ∧ Below W.heap.size W w' := by
  have h0 := scKeys_any awkL (by decide) awk_u64 3 6 W (some ⟨b, 0, none⟩) 3 h
  rw [show keysI (ofT 3 6) awkL = [(1, 4), (7, 3)] by rfl] at h0
  refine h0.mono ?_
  rintro e w' ⟨A', c', rfl, hL, hB⟩
  obtain ⟨g, o, rfl, hg, -, hc⟩ := sp_at hL (by decide)
  obtain ⟨x0, x1⟩ := hc 0 (by decide)
  obtain ⟨y0, y1⟩ := hc 1 (by decide)
  exact ⟨g, o, c', rfl, hg, by simpa using x0, by simpa using x1, by simpa using y0, by simpa using y1, hB⟩
theorem awk_sum1 (W : World) (b : Nat) (h : Lies evL W W.heap.size (.slice (some ⟨b, 0, none⟩) 3 3) awkL) :
    Calls Try.prog 19 #[.slice (some ⟨b, 0, none⟩) 3 3, .int .u64 5, .int .u64 2] W fun e w' => e = .returned (.int .u64 2) ∧ Below W.heap.size W w' :=
  scSum_any awkL (by decide) awk_u64 5 2 (by decide) W (some ⟨b, 0, none⟩) 3 h
theorem awk_sum2 (W : World) (b : Nat) (h : Lies evL W W.heap.size (.slice (some ⟨b, 0, none⟩) 3 3) awkL) :
    Calls Try.prog 19 #[.slice (some ⟨b, 0, none⟩) 3 3, .int .u64 6, .int .u64 9] W fun e w' => e = .returned (.int .u64 7) ∧ Below W.heap.size W w' :=
  scSum_any awkL (by decide) awk_u64 6 9 (by decide) W (some ⟨b, 0, none⟩) 3 h
theorem awk_in (W : World) (b : Nat) (h : Lies evL W W.heap.size (.slice (some ⟨b, 0, none⟩) 3 3) awkL) :
    Calls Try.prog 21 #[.slice (some ⟨b, 0, none⟩) 3 3, .int .u64 6, .int .u64 9, .agg #[.int .u64 1, .int .u64 0], .int .i64 3, .int .i64 1] W fun e w' => e = .returned (.int .u64 7) ∧ Below W.heap.size W w' := by
  have h0 := scIn_any awkL (by decide) awk_u64 6 9 (by decide) 1 0 (by decide) (by decide) 3 1 (by decide) (by decide) (by decide) (by decide) W (some ⟨b, 0, none⟩) 3 h
  rw [show sumP (fun e => inB 6 9 e && decide (col 1 0 e.2.1 3 = 1)) awkL % M64 = 7 by decide] at h0
  exact h0

set_option maxRecDepth 100000 in
set_option maxHeartbeats 4000000 in
theorem sawake_any (w : World) : Calls Try.prog 18 #[] w fun e w' => e = .returned (.bool true) ∧ Below w.heap.size w w' := by
  obtain ⟨W0, hW0⟩ : ∃ W, w.alloc (.cells #[.int .u64 3, .int .u64 7, .int .u64 1, .int .u64 5, .int .u64 7, .int .u64 2, .int .u64 6, .int .u64 1, .int .u64 4] 41) = W := ⟨_, rfl⟩
  have o0 : W0.ownsRow w.heap.size 41 3 (.slice (some ⟨w.heap.size, 0, none⟩) 3 3) 3 (evL.cells awkL) := by rw [← hW0]; exact own_new (L := evL) w 41 #[.int .u64 3, .int .u64 7, .int .u64 1, .int .u64 5, .int .u64 7, .int .u64 2, .int .u64 6, .int .u64 1, .int .u64 4] 3 w.heap.size awkL rfl rfl (Nat.le_refl _) (by unfold maxLen; omega)
  have b0 : Below w.heap.size w W0 := by rw [← hW0]; exact (Below.refl _ w).alloc (Nat.le_refl _) _
  have hl : Lies evL W0 W0.heap.size (.slice (some ⟨w.heap.size, 0, none⟩) 3 3) awkL := Lies.of_own (xs := awkL) o0
  obtain ⟨bx, hbx⟩ : ∃ b, w.heap.size = b := ⟨_, rfl⟩
  have HW0 := Lib.hid hW0
  have B0 := Lib.hid b0
  rw [hbx] at hl
  have HL := Lib.hid hl
  have HBX := Lib.hid hbx
  clear hW0 o0 b0 hl hbx
  go_enter Try.func18, Try.ntmps18
  go_upto_region 2 with (fail)
  rw [HW0.out, HBX.out]
  go_upto_region 3 with (go_at_call 24; (with_reducible refine (awk_keys _ _ HL.out).mono ?_); rintro e w1 ⟨g, o, c', rfl, hg, x0, x1, x2, x3, hb⟩; have HB1 := Lib.hid hb; clear hb)
  have HB := Lib.hid (thn B0.out HB1.out)
  have hl1 := (HL.out.below HB1.out).mono HB1.out.size
  have X0 := Lib.hid x0
  have X1 := Lib.hid x1
  have X2 := Lib.hid x2
  have X3 := Lib.hid x3
  have HL1 := Lib.hid hl1
  clear x0 x1 x2 x3 hl1 HB1 HL
  go_wp2_with (first
    | (go_at_call 19; (with_reducible refine (awk_sum1 _ _ HL1.out).mono ?_); rintro e w2 ⟨rfl, hb⟩; have HL2 := Lib.hid ((HL1.out.below hb).mono hb.size); have HB2 := Lib.hid (thn HB.out hb); have HC2 := Lib.hid hb; clear hb)
    | (go_at_call 19; (with_reducible refine (awk_sum2 _ _ HL2.out).mono ?_); rintro e w3 ⟨rfl, hb⟩; have HL3 := Lib.hid ((HL2.out.below hb).mono hb.size); have HB3 := Lib.hid (thn HB2.out hb); have HC3 := Lib.hid (thn HC2.out hb); clear hb)
    | (go_at_call 21; (with_reducible refine (awk_in _ _ HL3.out).mono ?_); rintro e w4 ⟨rfl, hb⟩; have HB4 := Lib.hid (thn HB3.out hb); have HC4 := thn HC3.out hb; have x0 := (HC4.cell (p := ⟨g, o, none⟩) hg).trans X0.out; have x1 := (HC4.cell (p := ⟨g, o + 1, none⟩) hg).trans X1.out; have x2 := (HC4.cell (p := ⟨g, o + 2, none⟩) hg).trans X2.out; have x3 := (HC4.cell (p := ⟨g, o + 3, none⟩) hg).trans X3.out; clear hb HC4))
  go_ret
  exact ⟨rfl, HB4.out⟩
end Go.Proofs.Ythncmjimfkbofaa
end
