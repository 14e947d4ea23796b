/- The contract of slices.symMergeCmpFunc, on events. · The contract of slices.symMergeCmpFunc, on events, whatever the parts; blocks in turn. · The contract of slices.stableCmpFunc, on events. · The contract of slices.SortStableFunc, on events: the row is then as its events stand, each put behind all whose tick is no more. -/
import Derived.Test.YthncmjimfkbofaaJ14
section
/- The contract of slices.symMergeCmpFunc, on events. -/
namespace Go.Proofs.Ythncmjimfkbofaa
set_option linter.unusedVariables false
open Go.RowKit Go.Shelf Go.Proofs.Rw Go.Proofs.Lh Go.Proofs.Bu Go.Proofs.So

/-- What a merge does. -/
def SymAt (N g cap base a m b : Nat) : Prop := ∀ (l : List Ev) (w : World), RowN w base g cap N l → SR l a m → SR l m b →
    Calls Try.prog 76 #[.slice (some ⟨g, 0, none⟩) N cap, .int .i64 (a : Int), .int .i64 (m : Int), .int .i64 (b : Int), .func (.func 33) #[] #[]] w fun e w' => e = .returned (.tuple #[]) ∧ ∃ l', RowN w' base g cap N l' ∧ Rs l l' a b ∧ Rb l l' a b ∧ SR l' a b ∧ w.grownBy w' (some g)

/-- What a merge does behind its search: three calls that may be left out. -/
structure Sym3 (N g cap base a b mid : Nat) (L1 : List Ev) (W : World) : Prop where
  row : RowN W base g cap N L1

set_option maxRecDepth 100000 in
set_option maxHeartbeats 8000000 in
theorem smerge3_any (a m b : Nat) (l : List Ev) (N g cap base : Nat) (ham : a + 2 ≤ m) (hmb : m + 2 ≤ b) (hbn : b ≤ N) (hN : N ≤ 1000000) (hs1 : SR l a m) (hs2 : SR l m b)
    (ih : ∀ a' m' b', a' < m' → m' < b' → b' - a' < b - a → b' ≤ N → SymAt N g cap base a' m' b') (w : World) (h : RowN w base g cap N l) :
    Calls Try.prog 76 #[.slice (some ⟨g, 0, none⟩) N cap, .int .i64 (a : Int), .int .i64 (m : Int), .int .i64 (b : Int), .func (.func 33) #[] #[]] w fun e w' => e = .returned (.tuple #[]) ∧ ∃ l', RowN w' base g cap N l' ∧ Rs l l' a b ∧ Rb l l' a b ∧ SR l' a b ∧ w.grownBy w' (some g) := by
  have hlen := h.len
  have HR0 := Lib.hid h
  have HS1 := Lib.hid hs1
  have HS2 := Lib.hid hs2
  have HIH := Lib.hid ih
  clear h hs1 hs2 ih
  obtain ⟨d, hd⟩ : ∃ d, m - a = d := ⟨_, rfl⟩
  have hdz : (m : Int) - (a : Int) = (d : Int) := by omega
  have hdne : ((d : Int) == 1) = false := by rw [beq_eq_false_iff_ne]; omega
  have hdn : ¬ d = 1 := by omega
  obtain ⟨d2, hd2⟩ : ∃ d, b - m = d := ⟨_, rfl⟩
  have hdz2 : (b : Int) - (m : Int) = (d2 : Int) := by omega
  have hdne2 : ((d2 : Int) == 1) = false := by rw [beq_eq_false_iff_ne]; omega
  have hdn2 : ¬ d2 = 1 := by omega
  obtain ⟨mid, hmid⟩ : ∃ x, (a + b) / 2 = x := ⟨_, rfl⟩
  have hmz : ((a : Int) + (b : Int)) / 2 = (mid : Int) := by omega
  obtain ⟨n, hn⟩ : ∃ x, mid + m = x := ⟨_, rfl⟩
  have hnz : (mid : Int) + (m : Int) = (n : Int) := by omega
  obtain ⟨pp, hpp⟩ : ∃ x, n - 1 = x := ⟨_, rfl⟩
  have hpz : (n : Int) - 1 = (pp : Int) := by omega
  have hmid1 : a < mid := by omega
  have hmid2 : mid < b := by omega
  have hnn : n ≤ 2000000 := by omega
  obtain ⟨nb, hnb⟩ : ∃ x, n - b = x := ⟨_, rfl⟩
  have hnbz : mid < m → (n : Int) - (b : Int) = (nb : Int) := fun _ => by omega
  have hsp : ∃ s0 r0, ((mid < m ∧ s0 = nb ∧ r0 = mid) ∨ (¬ mid < m ∧ s0 = a ∧ r0 = m)) := by
    by_cases c : mid < m
    · exact ⟨nb, mid, .inl ⟨c, rfl, rfl⟩⟩
    · exact ⟨a, m, .inr ⟨c, rfl, rfl⟩⟩
  obtain ⟨s0, r0, hsr⟩ := hsp
  have q1 : a ≤ s0 := by omega
  have q2 : r0 ≤ m := by omega
  have q3 : s0 ≤ r0 := by omega
  have q4 : m + r0 ≤ n := by omega
  have q5 : n ≤ b + s0 := by omega
  have q6 : s0 = a ∨ n = b + s0 := by omega
  have q7 : r0 = m ∨ n = m + r0 := by omega
  clear hmid
  rcases hsr with ⟨hmm, e1, e2⟩ | ⟨hmm, e1, e2⟩
  all_goals
    have hnbz2 := hnbz
    first
      | (have hnb3 := hnbz hmm; rw [← e1] at hnb3)
      | skip
    have hs0z : (s0 : Int) = (s0 : Int) := rfl
    clear hnbz
    go_enter Try.func76, Try.ntmps76
    go_wp2
    go_loopw [20, 21] (fun s20 s21 wr => ∃ s r : Nat, s20 = .int .i64 (s : Int) ∧ s21 = .int .i64 (r : Int) ∧ s0 ≤ s ∧ s ≤ r ∧ r ≤ r0 ∧ Hid (RowN wr base g cap N l) ∧ Hid (∀ c, s0 ≤ c → c < s → kf l c ≤ kf l (n - 1 - c)) ∧ Hid (∀ c, r ≤ c → c < r0 → kf l (n - 1 - c) < kf l c) ∧ Hid (w.grownBy wr (some g))) (fun s20 s21 _ => (intOf s21 - intOf s20).toNat)
    case atStart => exact ⟨s0, r0, by rw [e1], by rw [e2], Nat.le_refl _, q3, Nat.le_refl _, HR0, Lib.hid (fun c h1 h2 => by omega), Lib.hid (fun c h1 h2 => by omega), Lib.hid ⟨rfl, rfl, rfl, Nat.le_refl _, fun _ _ _ => rfl⟩⟩
    case round =>
      obtain ⟨s, r, rfl, rfl, hss, hsr, hrr, HR, HLO, HHI, HG⟩ := hrel
      clear HR0
      by_cases hlt : s < r
      · obtain ⟨k, hk⟩ : ∃ k, (s + r) / 2 = k := ⟨_, rfl⟩
        have hkz : ((s : Int) + (r : Int)) / 2 = (k : Int) := by omega
        have hk1 : s ≤ k := by omega
        have hk2 : k < r := by omega
        have hkl : k < l.length := by omega
        have hkN : k < N := by omega
        obtain ⟨z, hz⟩ : ∃ z, n - 1 - k = z := ⟨_, rfl⟩
        have hzz : (pp : Int) - (k : Int) = (z : Int) := by omega
        have hzl : z < l.length := by omega
        have hzN : z < N := by omega
        have hzw : IntKind.i64.wrap (z : Int) = (z : Int) := by rw [IntKind.wrap_i64]; omega
        obtain ⟨x, hx⟩ : ∃ x, l[k] = x := ⟨_, rfl⟩
        obtain ⟨y, hy⟩ : ∃ y, l[z] = y := ⟨_, rfl⟩
        have lg := HR.out.lt.2
        obtain ⟨x0, x1, x2⟩ := HR.out.at hkl
        obtain ⟨y0, y1, y2⟩ := HR.out.at hzl
        rw [hx] at x0 x1 x2
        rw [hy] at y0 y1 y2
        have kx : kf l k = x.1 := by rw [kf_at hkl, hx]
        have ky : kf l (n - 1 - k) = y.1 := by rw [hz, kf_at hzl, hy]
        obtain ⟨ko, hko⟩ : ∃ o, k * 3 = o := ⟨_, rfl⟩
        obtain ⟨zo, hzo⟩ : ∃ o, z * 3 = o := ⟨_, rfl⟩
        rw [hko] at x0 x1 x2
        rw [hzo] at y0 y1 y2
        have X0 := fun p : BelowBy wr => cell_below lg x0 p
        have X1 := fun p : BelowBy wr => cell_below lg x1 p
        have X2 := fun p : BelowBy wr => cell_below lg x2 p
        have Y0 := fun p : BelowBy wr => cell_below lg y0 p
        have Y1 := fun p : BelowBy wr => cell_below lg y1 p
        have Y2 := fun p : BelowBy wr => cell_below lg y2 p
        have jc := fun W => jcmp_any y x W
        obtain ⟨xa, xb, xc⟩ := x
        obtain ⟨ya, yb, yc⟩ := y
        dsimp only [evV] at jc X0 X1 X2 Y0 Y1 Y2 kx ky
        have hcz := cmpT_lt ya xa
        obtain ⟨rr, hr⟩ : ∃ r, cmpT ya xa = r := ⟨_, rfl⟩
        rw [hr] at hcz
        simp only [hr] at jc
        have JC := Lib.hid jc
        have KX := Lib.hid kx
        have KY := Lib.hid ky
        clear jc x0 x1 x2 y0 y1 y2 hk hx hy kx ky
        by_cases hc : ya < xa
        · have hcd : decide (rr < 0) = true := by rw [hcz]; simpa using hc
          have HHI2 := Lib.hid (show ∀ c, k ≤ c → c < r0 → kf l (n - 1 - c) < kf l c from fun c h1 h2 => by
            have k1 := HS2.out (n - 1 - c) (n - 1 - k) (by omega) (by omega) (by omega)
            have k2 := HS1.out k c (by omega) h1 (by omega)
            rw [KX.out] at k2
            rw [KY.out] at k1
            omega)
          clear hcz
          go_upto_region 35 with (fail)
          refine wp_region_below (by kernel_rfl) (by kernel_rfl) ?_
          repeat (quiet_step (first
            | (go_at_call 33; exact below_of (JC.out _))))
          refine wpQuiet_nil ?_
          intro _ hw'
          obtain ⟨pq, hw''⟩ := hw'
          subst hw''
          have HR1 := Lib.hid (HR.out.grow pq.h)
          have HG1 := Lib.hid (grown_trans HG.out (grown_bel pq.h))
          go_wp2
          exact ⟨⟨s, k, rfl, rfl, hss, hk1, by omega, HR1, HLO, HHI2, HG1⟩, by simp [intOf]; omega⟩
        · have hcd : decide (rr < 0) = false := by rw [hcz]; simpa using hc
          have HLO2 := Lib.hid (show ∀ c, s0 ≤ c → c < k + 1 → kf l c ≤ kf l (n - 1 - c) from fun c h1 h2 => by
            have k1 := HS2.out (n - 1 - k) (n - 1 - c) (by omega) (by omega) (by omega)
            have k2 := HS1.out c k (by omega) (by omega) (by omega)
            rw [KX.out] at k2
            rw [KY.out] at k1
            omega)
          clear hcz
          go_upto_region 35 with (fail)
          refine wp_region_below (by kernel_rfl) (by kernel_rfl) ?_
          repeat (quiet_step (first
            | (go_at_call 33; exact below_of (JC.out _))))
          refine wpQuiet_nil ?_
          intro _ hw'
          obtain ⟨pq, hw''⟩ := hw'
          subst hw''
          have HR1 := Lib.hid (HR.out.grow pq.h)
          have HG1 := Lib.hid (grown_trans HG.out (grown_bel pq.h))
          go_wp2
          exact ⟨⟨k + 1, r, by go_num, rfl, by omega, hk2, hrr, HR1, HLO2, HHI, HG1⟩, by simp [intOf]; omega⟩
      · have e : r = s := by omega
        subst e
        obtain ⟨en, hen⟩ : ∃ x, n - r = x := ⟨_, rfl⟩
        have henz : (n : Int) - (r : Int) = (en : Int) := by omega
        obtain ⟨hA, hB⟩ := sym_split HS1.out HS2.out q1 q2 hss hrr q4 q5 q6 q7 HLO.out HHI.out
        rw [hen] at hA hB
        obtain ⟨P, U, V, S, hl, p1, p2, p3⟩ := four (l := l) (show r ≤ m by omega) (show m ≤ en by omega) (show en ≤ l.length by omega)
        have hmid3 : mid + m = en + r := by omega
        have hs1 := HS1.out
        have hs2 := HS2.out
        have hR := HR.out
        rw [hl] at hs1 hs2 hA hB hR
        obtain ⟨g1, g2, g3, g4, g5, g6, g7⟩ := sym_l1 (S := S) p1 p2 p3 hmid3 (show a ≤ r by omega) (show en ≤ b by omega) hs1 hs2 hA hB
        rw [← hl] at g1 g2
        have hrot := fun (c1 : r < m) (c2 : m < en) => rotate_any r m en P U V S N g cap base (.func (.func 33) #[] #[]) p1 p2 p3 hN (by omega) (by omega) wr hR
        have hsame : ¬ (r < m ∧ m < en) → RowN wr base g cap N (P ++ V ++ U ++ S) := fun c => by
          rcases Nat.lt_or_ge r m with c1 | c1
          · have : V = [] := List.eq_nil_of_length_eq_zero (by omega)
            subst this
            simpa only [List.append_assoc, List.nil_append, List.append_nil] using hR
          · have : U = [] := List.eq_nil_of_length_eq_zero (by omega)
            subst this
            simpa only [List.append_assoc, List.nil_append, List.append_nil] using hR
        obtain ⟨L1, hL1⟩ : ∃ L, P ++ V ++ U ++ S = L := ⟨_, rfl⟩
        rw [hL1] at g1 g2 g3 g4 g5 g6 g7 hsame
        simp only [hL1] at hrot
        have HROT := Lib.hid hrot
        have HSAME := Lib.hid hsame
        have HT2 := Lib.hid (show ∀ W, RowN W base g cap N L1 → a < r → r < mid → Calls Try.prog 76 #[.slice (some ⟨g, 0, none⟩) N cap, .int .i64 (a : Int), .int .i64 (r : Int), .int .i64 (mid : Int), .func (.func 33) #[] #[]] W fun e w' => e = .returned (.tuple #[]) ∧ ∃ l', RowN w' base g cap N l' ∧ Rs L1 l' a mid ∧ Rb L1 l' a mid ∧ SR l' a mid ∧ W.grownBy w' (some g) from fun W hW c1 c2 => HIH.out a r mid c1 c2 (by omega) (by omega) L1 W hW g3 g4)
        have HN2 := Lib.hid (show ¬ (a < r ∧ r < mid) → SR L1 a mid from fun c => sr_join g3 g4 (by omega))
        have HT3 := Lib.hid (show ∀ W L2, RowN W base g cap N L2 → Rs L1 L2 a mid → mid < en → en < b → Calls Try.prog 76 #[.slice (some ⟨g, 0, none⟩) N cap, .int .i64 (mid : Int), .int .i64 (en : Int), .int .i64 (b : Int), .func (.func 33) #[] #[]] W fun e w' => e = .returned (.tuple #[]) ∧ ∃ l', RowN w' base g cap N l' ∧ Rs L2 l' mid b ∧ Rb L2 l' mid b ∧ SR l' mid b ∧ W.grownBy w' (some g) from fun W L2 hW hr c1 c2 => HIH.out mid en b c1 c2 (by omega) hbn L2 W hW (fun p q h1 h2 h3 => by rw [hr.off p (by omega), hr.off q (by omega)]; exact g5 p q h1 h2 h3) (fun p q h1 h2 h3 => by rw [hr.off p (by omega), hr.off q (by omega)]; exact g6 p q h1 h2 h3))
        have HN3 := Lib.hid (show ∀ L2, Rs L1 L2 a mid → ¬ (mid < en ∧ en < b) → SR L2 mid b from fun L2 hr c p q h1 h2 h3 => by rw [hr.off p (by omega), hr.off q (by omega)]; exact sr_join g5 g6 (by omega) p q h1 h2 h3)
        have HEND := Lib.hid (show ∀ L2 L3, Rs L1 L2 a mid → Rb L1 L2 a mid → SR L2 a mid → Rs L2 L3 mid b → Rb L2 L3 mid b → SR L3 mid b → Rs l L3 a b ∧ Rb l L3 a b ∧ SR L3 a b from fun L2 L3 h1 h2 h3 h4 h5 h6 => by
          obtain ⟨k1, k2, k3⟩ := sym_end (Nat.le_of_lt hmid1) (Nat.le_of_lt hmid2) h1 h2 h3 h4 h5 h6 g7
          exact ⟨g1.trans k1, g2.trans k2, k3⟩)
        have cen1 : m ≤ en := by omega
        have cen2 : en ≤ b := by omega
        have cr1 : a ≤ r := by omega
        have cr2 : r ≤ m := by omega
        clear hrot hsame g1 g2 g3 g4 g5 g6 g7 hs1 hs2 hR hA hB hl hL1 p1 p2 p3 HIH HS1 HS2 HLO HHI HR hen
        by_cases c1 : r < m
        · by_cases c2 : m < en
          · have HC1 := Lib.hid (HROT.out c1 c2)
            go_upto_region 41 with (go_at_call 94; (with_reducible refine HC1.out.mono ?_); rintro e w1 ⟨rfl, h1, h2⟩; have HR1 := Lib.hid h1; have HG1 := Lib.hid (grown_trans HG.out h2); clear h1 h2)
            by_cases c3 : a < r
            · by_cases c4 : r < mid
              · have HC2 := Lib.hid (HT2.out _ HR1.out c3 c4)
                go_upto_region 43 with (go_at_call 76; (with_reducible refine HC2.out.mono ?_); rintro e w2 ⟨rfl, L2, h1, h2, h3, h4, h5⟩; have HR2 := Lib.hid h1; have HS2 := Lib.hid h2; have HB2 := Lib.hid h3; have HO2 := Lib.hid h4; have HG2 := Lib.hid (grown_trans HG1.out h5); clear h1 h2 h3 h4 h5)
                by_cases c5 : mid < en
                · by_cases c6 : en < b
                  · have HC3 := Lib.hid (HT3.out _ _ HR2.out HS2.out c5 c6)
                    go_wp2_with (go_at_call 76; (with_reducible refine HC3.out.mono ?_); rintro e w3 ⟨rfl, L3, h1, h2, h3, h4, h5⟩; have HR3 := Lib.hid h1; have HS3 := Lib.hid h2; have HB3 := Lib.hid h3; have HO3 := Lib.hid h4; have HG3 := Lib.hid (grown_trans HG2.out h5); clear h1 h2 h3 h4 h5)
                    obtain ⟨k1, k2, k3⟩ := HEND.out _ _ HS2.out HB2.out HO2.out HS3.out HB3.out HO3.out
                    exact bodyPost_end (results_none rfl _ _ _) rfl ⟨rfl, _, HR3.out, k1, k2, k3, HG3.out⟩
                  · have HR3 := HR2
                    have HG3 := HG2
                    have HS3 := Lib.hid (Rs.refl L2 mid b)
                    have HB3 := Lib.hid (Rb.refl L2 mid b)
                    have HO3 := Lib.hid (HN3.out L2 HS2.out (by omega))
                    go_wp2
                    obtain ⟨k1, k2, k3⟩ := HEND.out _ _ HS2.out HB2.out HO2.out HS3.out HB3.out HO3.out
                    exact bodyPost_end (results_none rfl _ _ _) rfl ⟨rfl, _, HR3.out, k1, k2, k3, HG3.out⟩
                · have HR3 := HR2
                  have HG3 := HG2
                  have HS3 := Lib.hid (Rs.refl L2 mid b)
                  have HB3 := Lib.hid (Rb.refl L2 mid b)
                  have HO3 := Lib.hid (HN3.out L2 HS2.out (by omega))
                  go_wp2
                  obtain ⟨k1, k2, k3⟩ := HEND.out _ _ HS2.out HB2.out HO2.out HS3.out HB3.out HO3.out
                  exact bodyPost_end (results_none rfl _ _ _) rfl ⟨rfl, _, HR3.out, k1, k2, k3, HG3.out⟩
              · have HR2 := HR1
                have HG2 := HG1
                obtain ⟨L2, hL2⟩ : ∃ L, L1 = L := ⟨_, rfl⟩
                have HS2 := Lib.hid (show Rs L1 L2 a mid by rw [← hL2]; exact Rs.refl _ _ _)
                have HB2 := Lib.hid (show Rb L1 L2 a mid by rw [← hL2]; exact Rb.refl _ _ _)
                have HO2 := Lib.hid (show SR L2 a mid by rw [← hL2]; exact HN2.out (by omega))
                rw [hL2] at HR2
                go_upto_region 43 with (fail)
                by_cases c5 : mid < en
                · by_cases c6 : en < b
                  · have HC3 := Lib.hid (HT3.out _ _ HR2.out HS2.out c5 c6)
                    go_wp2_with (go_at_call 76; (with_reducible refine HC3.out.mono ?_); rintro e w3 ⟨rfl, L3, h1, h2, h3, h4, h5⟩; have HR3 := Lib.hid h1; have HS3 := Lib.hid h2; have HB3 := Lib.hid h3; have HO3 := Lib.hid h4; have HG3 := Lib.hid (grown_trans HG2.out h5); clear h1 h2 h3 h4 h5)
                    obtain ⟨k1, k2, k3⟩ := HEND.out _ _ HS2.out HB2.out HO2.out HS3.out HB3.out HO3.out
                    exact bodyPost_end (results_none rfl _ _ _) rfl ⟨rfl, _, HR3.out, k1, k2, k3, HG3.out⟩
                  · have HR3 := HR2
                    have HG3 := HG2
                    have HS3 := Lib.hid (Rs.refl L2 mid b)
                    have HB3 := Lib.hid (Rb.refl L2 mid b)
                    have HO3 := Lib.hid (HN3.out L2 HS2.out (by omega))
                    go_wp2
                    obtain ⟨k1, k2, k3⟩ := HEND.out _ _ HS2.out HB2.out HO2.out HS3.out HB3.out HO3.out
                    exact bodyPost_end (results_none rfl _ _ _) rfl ⟨rfl, _, HR3.out, k1, k2, k3, HG3.out⟩
                · have HR3 := HR2
                  have HG3 := HG2
                  have HS3 := Lib.hid (Rs.refl L2 mid b)
                  have HB3 := Lib.hid (Rb.refl L2 mid b)
                  have HO3 := Lib.hid (HN3.out L2 HS2.out (by omega))
                  go_wp2
                  obtain ⟨k1, k2, k3⟩ := HEND.out _ _ HS2.out HB2.out HO2.out HS3.out HB3.out HO3.out
                  exact bodyPost_end (results_none rfl _ _ _) rfl ⟨rfl, _, HR3.out, k1, k2, k3, HG3.out⟩
            · have HR2 := HR1
              have HG2 := HG1
              obtain ⟨L2, hL2⟩ : ∃ L, L1 = L := ⟨_, rfl⟩
              have HS2 := Lib.hid (show Rs L1 L2 a mid by rw [← hL2]; exact Rs.refl _ _ _)
              have HB2 := Lib.hid (show Rb L1 L2 a mid by rw [← hL2]; exact Rb.refl _ _ _)
              have HO2 := Lib.hid (show SR L2 a mid by rw [← hL2]; exact HN2.out (by omega))
              rw [hL2] at HR2
              go_upto_region 43 with (fail)
              by_cases c5 : mid < en
              · by_cases c6 : en < b
                · have HC3 := Lib.hid (HT3.out _ _ HR2.out HS2.out c5 c6)
                  go_wp2_with (go_at_call 76; (with_reducible refine HC3.out.mono ?_); rintro e w3 ⟨rfl, L3, h1, h2, h3, h4, h5⟩; have HR3 := Lib.hid h1; have HS3 := Lib.hid h2; have HB3 := Lib.hid h3; have HO3 := Lib.hid h4; have HG3 := Lib.hid (grown_trans HG2.out h5); clear h1 h2 h3 h4 h5)
                  obtain ⟨k1, k2, k3⟩ := HEND.out _ _ HS2.out HB2.out HO2.out HS3.out HB3.out HO3.out
                  exact bodyPost_end (results_none rfl _ _ _) rfl ⟨rfl, _, HR3.out, k1, k2, k3, HG3.out⟩
                · have HR3 := HR2
                  have HG3 := HG2
                  have HS3 := Lib.hid (Rs.refl L2 mid b)
                  have HB3 := Lib.hid (Rb.refl L2 mid b)
                  have HO3 := Lib.hid (HN3.out L2 HS2.out (by omega))
                  go_wp2
                  obtain ⟨k1, k2, k3⟩ := HEND.out _ _ HS2.out HB2.out HO2.out HS3.out HB3.out HO3.out
                  exact bodyPost_end (results_none rfl _ _ _) rfl ⟨rfl, _, HR3.out, k1, k2, k3, HG3.out⟩
              · have HR3 := HR2
                have HG3 := HG2
                have HS3 := Lib.hid (Rs.refl L2 mid b)
                have HB3 := Lib.hid (Rb.refl L2 mid b)
                have HO3 := Lib.hid (HN3.out L2 HS2.out (by omega))
                go_wp2
                obtain ⟨k1, k2, k3⟩ := HEND.out _ _ HS2.out HB2.out HO2.out HS3.out HB3.out HO3.out
                exact bodyPost_end (results_none rfl _ _ _) rfl ⟨rfl, _, HR3.out, k1, k2, k3, HG3.out⟩
          · have HR1 := Lib.hid (HSAME.out (by omega))
            have HG1 := HG
            go_upto_region 41 with (fail)
            have c3 : a < r := by omega
            have c4 : ¬ r < mid := by omega
            have HR2 := HR1
            have HG2 := HG1
            obtain ⟨L2, hL2⟩ : ∃ L, L1 = L := ⟨_, rfl⟩
            have HS2 := Lib.hid (show Rs L1 L2 a mid by rw [← hL2]; exact Rs.refl _ _ _)
            have HB2 := Lib.hid (show Rb L1 L2 a mid by rw [← hL2]; exact Rb.refl _ _ _)
            have HO2 := Lib.hid (show SR L2 a mid by rw [← hL2]; exact HN2.out (by omega))
            rw [hL2] at HR2
            go_upto_region 43 with (fail)
            by_cases c5 : mid < en
            · by_cases c6 : en < b
              · have HC3 := Lib.hid (HT3.out _ _ HR2.out HS2.out c5 c6)
                go_wp2_with (go_at_call 76; (with_reducible refine HC3.out.mono ?_); rintro e w3 ⟨rfl, L3, h1, h2, h3, h4, h5⟩; have HR3 := Lib.hid h1; have HS3 := Lib.hid h2; have HB3 := Lib.hid h3; have HO3 := Lib.hid h4; have HG3 := Lib.hid (grown_trans HG2.out h5); clear h1 h2 h3 h4 h5)
                obtain ⟨k1, k2, k3⟩ := HEND.out _ _ HS2.out HB2.out HO2.out HS3.out HB3.out HO3.out
                exact bodyPost_end (results_none rfl _ _ _) rfl ⟨rfl, _, HR3.out, k1, k2, k3, HG3.out⟩
              · have HR3 := HR2
                have HG3 := HG2
                have HS3 := Lib.hid (Rs.refl L2 mid b)
                have HB3 := Lib.hid (Rb.refl L2 mid b)
                have HO3 := Lib.hid (HN3.out L2 HS2.out (by omega))
                go_wp2
                obtain ⟨k1, k2, k3⟩ := HEND.out _ _ HS2.out HB2.out HO2.out HS3.out HB3.out HO3.out
                exact bodyPost_end (results_none rfl _ _ _) rfl ⟨rfl, _, HR3.out, k1, k2, k3, HG3.out⟩
            · have HR3 := HR2
              have HG3 := HG2
              have HS3 := Lib.hid (Rs.refl L2 mid b)
              have HB3 := Lib.hid (Rb.refl L2 mid b)
              have HO3 := Lib.hid (HN3.out L2 HS2.out (by omega))
              go_wp2
              obtain ⟨k1, k2, k3⟩ := HEND.out _ _ HS2.out HB2.out HO2.out HS3.out HB3.out HO3.out
              exact bodyPost_end (results_none rfl _ _ _) rfl ⟨rfl, _, HR3.out, k1, k2, k3, HG3.out⟩
        · have HR1 := Lib.hid (HSAME.out (by omega))
          have HG1 := HG
          go_upto_region 41 with (fail)
          by_cases c3 : a < r
          · by_cases c4 : r < mid
            · have HC2 := Lib.hid (HT2.out _ HR1.out c3 c4)
              go_upto_region 43 with (go_at_call 76; (with_reducible refine HC2.out.mono ?_); rintro e w2 ⟨rfl, L2, h1, h2, h3, h4, h5⟩; have HR2 := Lib.hid h1; have HS2 := Lib.hid h2; have HB2 := Lib.hid h3; have HO2 := Lib.hid h4; have HG2 := Lib.hid (grown_trans HG1.out h5); clear h1 h2 h3 h4 h5)
              have c5 : ¬ mid < en := by omega
              have HR3 := HR2
              have HG3 := HG2
              have HS3 := Lib.hid (Rs.refl L2 mid b)
              have HB3 := Lib.hid (Rb.refl L2 mid b)
              have HO3 := Lib.hid (HN3.out L2 HS2.out (by omega))
              go_wp2
              obtain ⟨k1, k2, k3⟩ := HEND.out _ _ HS2.out HB2.out HO2.out HS3.out HB3.out HO3.out
              exact bodyPost_end (results_none rfl _ _ _) rfl ⟨rfl, _, HR3.out, k1, k2, k3, HG3.out⟩
            · have HR2 := HR1
              have HG2 := HG1
              obtain ⟨L2, hL2⟩ : ∃ L, L1 = L := ⟨_, rfl⟩
              have HS2 := Lib.hid (show Rs L1 L2 a mid by rw [← hL2]; exact Rs.refl _ _ _)
              have HB2 := Lib.hid (show Rb L1 L2 a mid by rw [← hL2]; exact Rb.refl _ _ _)
              have HO2 := Lib.hid (show SR L2 a mid by rw [← hL2]; exact HN2.out (by omega))
              rw [hL2] at HR2
              go_upto_region 43 with (fail)
              have c5 : ¬ mid < en := by omega
              have HR3 := HR2
              have HG3 := HG2
              have HS3 := Lib.hid (Rs.refl L2 mid b)
              have HB3 := Lib.hid (Rb.refl L2 mid b)
              have HO3 := Lib.hid (HN3.out L2 HS2.out (by omega))
              go_wp2
              obtain ⟨k1, k2, k3⟩ := HEND.out _ _ HS2.out HB2.out HO2.out HS3.out HB3.out HO3.out
              exact bodyPost_end (results_none rfl _ _ _) rfl ⟨rfl, _, HR3.out, k1, k2, k3, HG3.out⟩
          · have HR2 := HR1
            have HG2 := HG1
            obtain ⟨L2, hL2⟩ : ∃ L, L1 = L := ⟨_, rfl⟩
            have HS2 := Lib.hid (show Rs L1 L2 a mid by rw [← hL2]; exact Rs.refl _ _ _)
            have HB2 := Lib.hid (show Rb L1 L2 a mid by rw [← hL2]; exact Rb.refl _ _ _)
            have HO2 := Lib.hid (show SR L2 a mid by rw [← hL2]; exact HN2.out (by omega))
            rw [hL2] at HR2
            go_upto_region 43 with (fail)
            have c5 : ¬ mid < en := by omega
            have HR3 := HR2
            have HG3 := HG2
            have HS3 := Lib.hid (Rs.refl L2 mid b)
            have HB3 := Lib.hid (Rb.refl L2 mid b)
            have HO3 := Lib.hid (HN3.out L2 HS2.out (by omega))
            go_wp2
            obtain ⟨k1, k2, k3⟩ := HEND.out _ _ HS2.out HB2.out HO2.out HS3.out HB3.out HO3.out
            exact bodyPost_end (results_none rfl _ _ _) rfl ⟨rfl, _, HR3.out, k1, k2, k3, HG3.out⟩
end Go.Proofs.Ythncmjimfkbofaa
end
section
/- The contract of slices.symMergeCmpFunc, on events, whatever the parts; blocks in turn. -/
namespace Go.Proofs.Ythncmjimfkbofaa
set_option linter.unusedVariables false
open Go.RowKit Go.Shelf Go.Proofs.Rw Go.Proofs.Lh Go.Proofs.Bu Go.Proofs.So

theorem smerge_any (N g cap base : Nat) (hN : N ≤ 1000000) : ∀ D a m b, b - a ≤ D → a < m → m < b → b ≤ N → SymAt N g cap base a m b
  | 0, a, m, b, h1, h2, h3, _ => by omega
  | D + 1, a, m, b, h1, h2, h3, h4 => fun l w h hs1 hs2 => by
    by_cases c1 : m = a + 1
    · subst c1
      exact smerge1_any a b l N g cap base h3 h4 hN hs2 w h
    · by_cases c2 : b = m + 1
      · subst c2
        exact smerge2_any a m l N g cap base (by omega) h4 hN hs1 w h
      · exact smerge3_any a m b l N g cap base (by omega) (by omega) h4 hN hs1 hs2 (fun a' m' b' k1 k2 k3 k4 => smerge_any N g cap base hN D a' m' b' (by omega) k1 k2 k4) w h
end Go.Proofs.Ythncmjimfkbofaa
namespace Go.Proofs.So
open Go.Proofs.Lh Go.Proofs.Bu
/-- Blocks of bs, each in turn, from block t on, up to N. -/
def Bk (l : List Ev) (bs t N : Nat) : Prop := ∀ c, t ≤ c → SR l (c * bs) (min (c * bs + bs) N)
/-- The first t blocks of bs in turn. -/
def Bt (l : List Ev) (bs t : Nat) : Prop := ∀ c, c < t → SR l (c * bs) (c * bs + bs)
theorem Bt.zero (l : List Ev) (bs : Nat) : Bt l bs 0 := fun c h => by omega
theorem SR.rs {l L : List Ev} {a b p q : Nat} (h : SR l p q) (hr : Rs l L a b) (hd : q ≤ a ∨ b ≤ p) : SR L p q := fun x y h1 h2 h3 => by
  rw [hr.off x (by omega), hr.off y (by omega)]
  exact h x y h1 h2 h3
theorem SR.sub {l : List Ev} {a b p q : Nat} (h : SR l a b) (h1 : a ≤ p) (h2 : q ≤ b) : SR l p q := fun x y k1 k2 k3 => h x y (by omega) k2 (by omega)
theorem Bt.step {l L : List Ev} {bs t : Nat} (h : Bt l bs t) (hr : Rs l L (t * bs) (t * bs + bs)) (hs : SR L (t * bs) (t * bs + bs)) : Bt L bs (t + 1) := fun c hc => by
  by_cases e : c = t
  · rw [e]; exact hs
  · have hle : (c + 1) * bs ≤ t * bs := Nat.mul_le_mul_right bs (by omega)
    rw [Nat.succ_mul] at hle
    exact (h c (by omega)).rs hr (.inl hle)
theorem Bk.of {l L : List Ev} {bs t N : Nat} (h : Bt l bs t) (hr : Rs l L (t * bs) N) (hs : SR L (t * bs) N) (hN : N ≤ t * bs + bs) : Bk L bs 0 N := fun c _ => by
  rcases Nat.lt_trichotomy c t with e | e | e
  · have hle : (c + 1) * bs ≤ t * bs := Nat.mul_le_mul_right bs (by omega)
    rw [Nat.succ_mul] at hle
    exact ((h c e).rs hr (.inl hle)).sub (Nat.le_refl _) (Nat.min_le_left _ _)
  · rw [e]
    exact hs.sub (Nat.le_refl _) (Nat.min_le_right _ _)
  · have hle : (t + 1) * bs ≤ c * bs := Nat.mul_le_mul_right bs (by omega)
    rw [Nat.succ_mul] at hle
    exact sr_small _ (by omega)
theorem Bk.step {l L : List Ev} {bs t N : Nat} (h : Bk l bs (2 * t) N) (hr : Rs l L (2 * t * bs) (2 * t * bs + 2 * bs)) : Bk L bs (2 * (t + 1)) N := fun c hc => by
  have hle : (2 * (t + 1)) * bs ≤ c * bs := Nat.mul_le_mul_right bs hc
  rw [Nat.mul_add, Nat.add_mul] at hle
  exact (h c (by omega)).rs hr (.inr (by omega))
end Go.Proofs.So
end
section
/- The contract of slices.stableCmpFunc, on events. -/
namespace Go.Proofs.Ythncmjimfkbofaa
set_option linter.unusedVariables false
open Go.RowKit Go.Shelf Go.Proofs.Rw Go.Proofs.Lh Go.Proofs.Bu Go.Proofs.So

set_option maxRecDepth 100000 in
set_option maxHeartbeats 4000000 in
theorem sstable_any (l : List Ev) (N g cap base : Nat) (hN : N ≤ 1000000) (w : World) (h : RowN w base g cap N l) :
    Calls Try.prog 59 #[.slice (some ⟨g, 0, none⟩) N cap, .int .i64 (N : Int), .func (.func 33) #[] #[]] w fun e w' => e = .returned (.tuple #[]) ∧ ∃ l', RowN w' base g cap N l' ∧ Stb l l' ∧ SR l' 0 N ∧ w.grownBy w' (some g) := by
  have HR0 := Lib.hid (show ∃ L, RowN w base g cap N L ∧ Stb l L ∧ Bt L 20 0 from ⟨l, h, Stb.refl _, Bt.zero _ _⟩)
  clear h
  go_enter Try.func59, Try.ntmps59
  go_wp2
  go_loopw [7, 8] (fun s7 s8 wr => ∃ t A B : Nat, s7 = .int .i64 (A : Int) ∧ s8 = .int .i64 (B : Int) ∧ Hid (A = t * 20 ∧ B = A + 20) ∧ A ≤ N ∧ Hid (∃ L, RowN wr base g cap N L ∧ Stb l L ∧ Bt L 20 t) ∧ Hid (w.grownBy wr (some g))) (fun s7 s8 _ => N + 20 - (intOf s8).toNat)
  case atStart => exact ⟨0, 0, 20, rfl, rfl, Lib.hid ⟨rfl, rfl⟩, Nat.zero_le _, HR0, Lib.hid ⟨rfl, rfl, rfl, Nat.le_refl _, fun _ _ _ => rfl⟩⟩
  case round =>
    obtain ⟨t, A, B, rfl, rfl, HAB, hAN, HR, HG⟩ := hrel
    clear HR0
    obtain ⟨hA, hB⟩ := HAB.out
    obtain ⟨L, hR, hSt, hBt⟩ := HR.out
    clear HR
    by_cases hle : B ≤ N
    · have hcall := sinsert_any A B L N g cap base (by omega) hle hN wr hR
      unfold cmpV at hcall
      have hnew := fun L' (h1 : Rs L L' A B) (h2 : SR L' A B) => Bt.step hBt (L := L') (by rw [← hA, ← hB]; exact h1) (by rw [← hA, ← hB]; exact h2)
      have HC := Lib.hid hcall
      have HST := Lib.hid hSt
      have HNEW := Lib.hid hnew
      obtain ⟨B2, hB2⟩ : ∃ x, B + 20 = x := ⟨_, rfl⟩
      have hB2z : (B : Int) + 20 = (B2 : Int) := by omega
      have hB2w : IntKind.i64.wrap (B2 : Int) = (B2 : Int) := by rw [IntKind.wrap_i64]; omega
      have HAB2 := Lib.hid (show B = (t + 1) * 20 ∧ B2 = B + 20 from ⟨by omega, hB2.symm⟩)
      clear hcall hnew hR hSt hBt hA hB
      go_wp2_with (go_at_call 75; (with_reducible refine HC.out.mono ?_); rintro e w1 ⟨rfl, L1, h1, h2, h3, h4⟩; have HR1 := Lib.hid h1; have HS1 := Lib.hid h2; have HO1 := Lib.hid h3; have HG1 := Lib.hid (grown_trans HG.out h4); clear h1 h2 h3 h4)
      exact ⟨⟨t + 1, B, B2, rfl, by first | rfl | rw [hB2z], HAB2, hle, Lib.hid ⟨L1, HR1.out, HST.out.trans HS1.out.stb, HNEW.out L1 HS1.out HO1.out⟩, HG1⟩, by simp [intOf]; omega⟩
    · have hcall := sinsert_any A N L N g cap base hAN (Nat.le_refl _) hN wr hR
      unfold cmpV at hcall
      have hnew := fun L' (h1 : Rs L L' A N) (h2 : SR L' A N) => Bk.of hBt (L := L') (N := N) (by rw [← hA]; exact h1) (by rw [← hA]; exact h2) (by omega)
      have HC := Lib.hid hcall
      have HST := Lib.hid hSt
      have HNEW := Lib.hid hnew
      clear hcall hnew hR hSt hBt hA hB
      go_wp2_with (go_at_call 75; (with_reducible refine HC.out.mono ?_); rintro e w1 ⟨rfl, L1, h1, h2, h3, h4⟩; have HR1 := Lib.hid h1; have HS1 := Lib.hid h2; have HO1 := Lib.hid h3; have HG1 := Lib.hid (grown_trans HG.out h4); clear h1 h2 h3 h4)
      have HK0 := Lib.hid (show ∃ L, RowN w1 base g cap N L ∧ Stb l L ∧ Bk L 20 0 N from ⟨L1, HR1.out, HST.out.trans HS1.out.stb, HNEW.out L1 HS1.out HO1.out⟩)
      clear HC HST HNEW HR1 HS1 HO1
      go_loopw [6, 7, 8, 9] (fun s6 s7 s8 s9 wr => ∃ bs : Nat, s6 = .int .i64 (bs : Int) ∧ 0 < bs ∧ bs ≤ 2000020 ∧ Hid (∃ L, RowN wr base g cap N L ∧ Stb l L ∧ Bk L bs 0 N) ∧ Hid (w.grownBy wr (some g))) (fun s6 _ _ _ _ => N - (intOf s6).toNat)
      case atStart => exact ⟨20, rfl, by omega, by omega, HK0, HG1⟩
      case round =>
        obtain ⟨bs, rfl, hb0, hb1, HK, HGK⟩ := hrel
        clear HK0 HG1 HG
        by_cases hlt : bs < N
        · obtain ⟨L, hR, hSt, hBk⟩ := HK.out
          obtain ⟨b2, hb2⟩ : ∃ x, 2 * bs = x := ⟨_, rfl⟩
          have hb2z : 2 * (bs : Int) = (b2 : Int) := by omega
          have hb2y : (bs : Int) * 2 = (b2 : Int) := by omega
          have HT0 := Lib.hid (show ∃ L, RowN wr base g cap N L ∧ Stb l L ∧ Bt L (2 * bs) 0 ∧ Bk L bs (2 * 0) N from ⟨L, hR, hSt, Bt.zero _ _, hBk⟩)
          clear hR hSt hBk HK
          go_wp2
          go_loopw [7, 8] (fun s7 s8 wr => ∃ t A B : Nat, s7 = .int .i64 (A : Int) ∧ s8 = .int .i64 (B : Int) ∧ Hid (A = 2 * t * bs ∧ A = t * (2 * bs) ∧ B = A + b2) ∧ A ≤ N ∧ Hid (∃ L, RowN wr base g cap N L ∧ Stb l L ∧ Bt L (2 * bs) t ∧ Bk L bs (2 * t) N) ∧ Hid (w.grownBy wr (some g))) (fun s7 s8 _ => N + b2 - (intOf s8).toNat)
          case atStart => exact ⟨0, 0, b2, rfl, rfl, Lib.hid ⟨by simp, by simp, by omega⟩, Nat.zero_le _, HT0, HGK⟩
          case round =>
            obtain ⟨t, A, B, rfl, rfl, HAB, hAN, HT, HGT⟩ := hrel
            clear HT0
            obtain ⟨hA, hA2, hB⟩ := HAB.out
            have hb2p : 0 < b2 := by omega
            have hb2q : b2 ≤ 2000020 := by omega
            obtain ⟨L, hR, hSt, hBt, hBk⟩ := HT.out
            clear HT
            have hs0 := hBk (2 * t) (Nat.le_refl _)
            have hs1 := hBk (2 * t + 1) (by omega)
            rw [Nat.succ_mul] at hs1
            rw [← hA] at hs0 hs1
            obtain ⟨m, hm⟩ : ∃ x, A + bs = x := ⟨_, rfl⟩
            have hmz : (A : Int) + (bs : Int) = (m : Int) := by omega
            rw [hm] at hs0 hs1
            by_cases hle : B ≤ N
            · have hcall := smerge_any N g cap base hN _ A m B (Nat.le_refl _) (by omega) (by omega) hle L wr hR (hs0.sub (Nat.le_refl _) (by omega)) (hs1.sub (Nat.le_refl _) (by omega))
              have hnew := fun L' (h1 : Rs L L' A B) (h2 : SR L' A B) => (show Bt L' (2 * bs) (t + 1) ∧ Bk L' bs (2 * (t + 1)) N from ⟨Bt.step hBt (by rw [← hA2, hb2, ← hB]; exact h1) (by rw [← hA2, hb2, ← hB]; exact h2), Bk.step hBk (by rw [← hA, hb2, ← hB]; exact h1)⟩)
              have hA3 : B = 2 * (t + 1) * bs := by rw [Nat.mul_add, Nat.add_mul, ← hA]; omega
              have hA4 : B = (t + 1) * (2 * bs) := by rw [Nat.succ_mul, ← hA2]; omega
              have HC := Lib.hid hcall
              have HST := Lib.hid hSt
              have HNEW := Lib.hid hnew
              obtain ⟨B2, hB2⟩ : ∃ x, B + b2 = x := ⟨_, rfl⟩
              have hB2z : (B : Int) + (b2 : Int) = (B2 : Int) := by omega
              have hB2w : IntKind.i64.wrap (B2 : Int) = (B2 : Int) := by rw [IntKind.wrap_i64]; omega
              have HAB2 := Lib.hid (show B = 2 * (t + 1) * bs ∧ B = (t + 1) * (2 * bs) ∧ B2 = B + b2 from ⟨hA3, hA4, hB2.symm⟩)
              clear hcall hnew hR hSt hBt hBk hs0 hs1 hA hA2 hA3 hA4 hB
              go_wp2_with (go_at_call 76; (with_reducible refine HC.out.mono ?_); rintro e w2 ⟨rfl, L2, h1, h2, h3, h4, h5⟩; have HR2 := Lib.hid h1; have HS2 := Lib.hid h2; have HO2 := Lib.hid h4; have HG2 := Lib.hid (grown_trans HGT.out h5); clear h1 h2 h3 h4 h5)
              exact ⟨⟨t + 1, B, B2, rfl, by first | rfl | rw [hB2z], HAB2, hle, Lib.hid ⟨L2, HR2.out, HST.out.trans HS2.out.stb, (HNEW.out L2 HS2.out HO2.out).1, (HNEW.out L2 HS2.out HO2.out).2⟩, HG2⟩, by simp [intOf]; omega⟩
            · have hnew := fun L' (h1 : Rs L L' A N) (h2 : SR L' A N) => Bk.of hBt (L := L') (N := N) (by rw [← hA2]; exact h1) (by rw [← hA2]; exact h2) (by rw [← hA2]; omega)
              have HNEW := Lib.hid hnew
              have HST := Lib.hid hSt
              have HBB := Lib.hid hb2
              by_cases hmn : m < N
              · have hcall := smerge_any N g cap base hN _ A m N (Nat.le_refl _) (by omega) hmn (Nat.le_refl _) L wr hR (hs0.sub (Nat.le_refl _) (by omega)) (hs1.sub (Nat.le_refl _) (by omega))
                have HC := Lib.hid hcall
                clear hcall hnew hR hSt hBt hBk hs0 hs1 hA hA2 hB
                go_wp2_with (go_at_call 76; (with_reducible refine HC.out.mono ?_); rintro e w2 ⟨rfl, L2, h1, h2, h3, h4, h5⟩; have HR2 := Lib.hid h1; have HS2 := Lib.hid h2; have HO2 := Lib.hid h4; have HG2 := Lib.hid (grown_trans HGT.out h5); clear h1 h2 h3 h4 h5)
                have HF := Lib.hid (HNEW.out L2 HS2.out HO2.out)
                exact ⟨⟨b2, by first | rfl | rw [hb2y] | go_num, by omega, by omega, Lib.hid ⟨L2, HR2.out, HST.out.trans HS2.out.stb, by rw [← HBB.out]; exact HF.out⟩, HG2⟩, by simp [intOf]; omega⟩
              · have HF := Lib.hid (hnew L (Rs.refl _ _ _) (hs0.sub (Nat.le_refl _) (by omega)))
                have HR2 := Lib.hid hR
                clear hnew hR hSt hBt hBk hs0 hs1 hA hA2 hB
                go_wp2
                exact ⟨⟨b2, by first | rfl | rw [hb2y] | go_num, by omega, by omega, Lib.hid ⟨L, HR2.out, HST.out, by rw [← HBB.out]; exact HF.out⟩, HGT⟩, by simp [intOf]; omega⟩
        · go_wp2
          obtain ⟨L, hR, hSt, hBk⟩ := HK.out
          have hs := hBk 0 (Nat.le_refl _)
          rw [Nat.zero_mul] at hs
          exact bodyPost_end (results_none rfl _ _ _) rfl ⟨rfl, L, hR, hSt, hs.sub (Nat.le_refl _) (by omega), HGK.out⟩
end Go.Proofs.Ythncmjimfkbofaa
end
section
/- The contract of slices.SortStableFunc, on events: the row is then as its events stand, each put behind all whose tick is no more. -/
namespace Go.Proofs.Ythncmjimfkbofaa
set_option linter.unusedVariables false
open Go.RowKit Go.Shelf Go.Proofs.Rw Go.Proofs.Lh Go.Proofs.Bu Go.Proofs.So

set_option maxHeartbeats 1000000 in
theorem ssort_any (l : List Ev) (N g cap base : Nat) (hN : N ≤ 1000000) (w : World) (h : RowN w base g cap N l) :
    Calls Try.prog 32 #[.slice (some ⟨g, 0, none⟩) N cap, .func (.func 33) #[] #[]] w fun e w' => e = .returned (.tuple #[]) ∧ RowN w' base g cap N (gath [] l) ∧ w.grownBy w' (some g) := by
  have hcall := sstable_any l N g cap base hN w h
  have HC := Lib.hid (hcall.mono (R' := fun e w' => e = .returned (.tuple #[]) ∧ RowN w' base g cap N (gath [] l) ∧ w.grownBy w' (some g)) fun e w' ⟨h1, l', h2, h3, h4, h5⟩ => ⟨h1, by
    have hs : Sd l' := sd_of_sr (by rw [h2.len]; exact h4)
    rw [← sorted_gath hs h3]
    exact h2, h5⟩)
  clear hcall h
  go_enter Try.func32, Try.ntmps32
  go_wp2_with (go_at_call 59; (with_reducible refine HC.out.mono ?_); rintro e w1 ⟨rfl, h1, h2⟩; have HR1 := Lib.hid h1; have HG1 := Lib.hid h2; clear h1 h2)
  exact bodyPost_end (results_none rfl _ _ _) rfl ⟨rfl, HR1.out, HG1.out⟩
end Go.Proofs.Ythncmjimfkbofaa
end
