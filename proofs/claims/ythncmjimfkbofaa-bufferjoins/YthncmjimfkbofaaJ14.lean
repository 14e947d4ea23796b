/- The contract of slices.insertionSortCmpFunc, on events. · The contract of slices.symMergeCmpFunc, on events, where the first part is one event. · The contract of slices.symMergeCmpFunc, on events, where the second part is one event. · Plain mathematics of a merge by turning parts about. -/
import Derived.Test.YthncmjimfkbofaaJ13
section
/- The contract of slices.insertionSortCmpFunc, on events. -/
namespace Go.Proofs.So
open Go.Proofs.Lh Go.Proofs.Bu
/-- In turn from a to i, but for what stands at j, which is no more than what follows. -/
def InsR (l : List Ev) (a j i : Nat) : Prop := ∀ p q, a ≤ p → p ≤ q → q ≤ i → q ≠ j → kf l p ≤ kf l q
theorem ins_start {l : List Ev} {a i : Nat} (h : SR l a i) : InsR l a i i := fun p q h1 h2 h3 h4 => h p q h1 h2 (by omega)
theorem ins_step {l : List Ev} {a j i : Nat} (h : InsR l a (j + 1) i) (ha : a ≤ j) (hji : j + 1 ≤ i) (hj : j + 1 < l.length) (hlt : kf l (j + 1) < kf l j) : InsR (swp l j (j + 1)) a j i := fun p q h1 h2 h3 h4 => by
  rw [swp_kf (by omega) hj, swp_kf (by omega) hj, if_neg h4]
  by_cases c1 : q = j + 1
  · rw [if_pos c1]
    by_cases c2 : p = j + 1
    · rw [if_pos c2]; exact Nat.le_refl _
    · rw [if_neg c2]
      by_cases c3 : p = j
      · rw [if_pos c3]; omega
      · rw [if_neg c3]
        exact h p j h1 (by omega) (by omega) (by omega)
  · rw [if_neg c1]
    by_cases c2 : p = j + 1
    · rw [if_pos c2]; exact h j q (by omega) (by omega) h3 c1
    · rw [if_neg c2]
      by_cases c3 : p = j
      · rw [if_pos c3]; exact h (j + 1) q (by omega) (by omega) h3 c1
      · rw [if_neg c3]; exact h p q h1 h2 h3 c1
theorem ins_end {l : List Ev} {a j i : Nat} (h : InsR l a j i) (hj : j = a ∨ (a < j ∧ kf l (j - 1) ≤ kf l j)) : SR l a (i + 1) := fun p q h1 h2 h3 => by
  by_cases c1 : q = j
  · subst c1
    by_cases c2 : p = q
    · rw [c2]; exact Nat.le_refl _
    · rcases hj with hj | ⟨hj1, hj2⟩
      · omega
      · exact Nat.le_trans (h p (q - 1) h1 (by omega) (by omega) (by omega)) hj2
  · exact h p q h1 h2 (by omega) c1
theorem sr_small (l : List Ev) {a b : Nat} (h : b ≤ a + 1) : SR l a b := fun p q h1 h2 h3 => by
  have : p = q := by omega
  rw [this]
  exact Nat.le_refl _
end Go.Proofs.So
namespace Go.Proofs.Ythncmjimfkbofaa
set_option linter.unusedVariables false
open Go.RowKit Go.Shelf Go.Proofs.Rw Go.Proofs.Lh Go.Proofs.Bu Go.Proofs.So

theorem grown_bel {a b : World} {k : Option Nat} (h : Below a.heap.size a b) : a.grownBy b k := ⟨h.os, h.tape, h.output, h.size, fun i hi _ => h.block i hi⟩
/-- The comparison of events, handed over. -/
def cmpV : Value := .func (.func 33) #[] #[]

set_option maxRecDepth 100000 in
set_option maxHeartbeats 4000000 in
theorem sinsert_any (a b : Nat) (l : List Ev) (N g cap base : Nat) (hab : a ≤ b) (hbn : b ≤ N) (hN : N ≤ 1000000) (w : World) (h : RowN w base g cap N l) :
    Calls Try.prog 75 #[.slice (some ⟨g, 0, none⟩) N cap, .int .i64 (a : Int), .int .i64 (b : Int), cmpV] w fun e w' => e = .returned (.tuple #[]) ∧ ∃ l', RowN w' base g cap N l' ∧ Rs l l' a b ∧ SR l' a b ∧ w.grownBy w' (some g) := by
  unfold cmpV
  have HR0 := Lib.hid (show ∃ L, RowN w base g cap N L ∧ Rs l L a b ∧ SR L a (a + 1) from ⟨l, h, Rs.refl _ _ _, sr_small l (Nat.le_refl _)⟩)
  clear h
  go_enter Try.func75, Try.ntmps75
  go_wp2
  go_loopw [8] (fun s8 wr => ∃ i : Nat, s8 = .int .i64 (i : Int) ∧ a < i ∧ i ≤ b + 1 ∧ Hid (∃ L, RowN wr base g cap N L ∧ Rs l L a b ∧ SR L a i) ∧ Hid (w.grownBy wr (some g))) (fun s8 _ => b + 1 - (intOf s8).toNat)
  case atStart => exact ⟨a + 1, by go_num, by omega, by omega, HR0, Lib.hid ⟨rfl, rfl, rfl, Nat.le_refl _, fun _ _ _ => rfl⟩⟩
  case round =>
    obtain ⟨i, rfl, hi1, hi2, HR, HG⟩ := hrel
    clear HR0
    by_cases hlt : i < b
    · obtain ⟨L0, hR0, hRs0, hSR0⟩ := HR.out
      have HI0 := Lib.hid (show ∃ L, RowN wr base g cap N L ∧ Rs l L a b ∧ InsR L a i i from ⟨L0, hR0, hRs0, ins_start hSR0⟩)
      clear hR0 hRs0 hSR0 HR
      go_wp2
      go_loopw [9] (fun s9 wr => ∃ j : Nat, s9 = .int .i64 (j : Int) ∧ a ≤ j ∧ j ≤ i ∧ Hid (∃ L, RowN wr base g cap N L ∧ Rs l L a b ∧ InsR L a j i) ∧ Hid (w.grownBy wr (some g))) (fun s9 _ => (intOf s9).toNat)
      case atStart => exact ⟨i, rfl, by omega, Nat.le_refl _, HI0, HG⟩
      case round =>
        obtain ⟨j, rfl, hj1, hj2, HI, HGJ⟩ := hrel
        clear HI0
        obtain ⟨L, hR, hRs, hIns⟩ := HI.out
        clear HI
        by_cases hg : a < j
        · obtain ⟨k, rfl⟩ : ∃ k, j = k + 1 := ⟨j - 1, by omega⟩
          have hlen := hR.len
          have hkl : k < L.length := by omega
          have hjl : k + 1 < L.length := by omega
          have hkN : k < N := by omega
          have hjN : k + 1 < N := by omega
          have hg' : decide ((a : Int) < ((k + 1 : Nat) : Int)) = true := by simp; omega
          obtain ⟨x, hx⟩ : ∃ x, L[k] = x := ⟨_, rfl⟩
          obtain ⟨y, hy⟩ : ∃ y, L[k + 1] = y := ⟨_, rfl⟩
          have lg := hR.lt.2
          obtain ⟨x0, x1, x2⟩ := hR.at hkl
          obtain ⟨y0, y1, y2⟩ := hR.at hjl
          rw [hx] at x0 x1 x2
          rw [hy] at y0 y1 y2
          have kx : kf L k = x.1 := by rw [kf_at hkl, hx]
          have ky : kf L (k + 1) = y.1 := by rw [kf_at hjl, hy]
          have hjz : ((k + 1 : Nat) : Int) - 1 = (k : Int) := by omega
          have hswp := fun (p : BelowBy wr) => (hR.grow p.h).swap hjl hkl hy hx
          have hnew : kf L (k + 1) < kf L k → Rs l (swp L (k + 1) k) a b ∧ InsR (swp L (k + 1) k) a k i := fun hlt2 => by
            rw [swp_comm (by omega)]
            exact ⟨hRs.trans (swp_rs hjl (by omega) (by omega) (by omega)), ins_step hIns (by omega) hj2 hjl hlt2⟩
          have hend : kf L k ≤ kf L (k + 1) → SR L a (i + 1) := fun hle => ins_end hIns (.inr ⟨by omega, hle⟩)
          rw [kx, ky] at hnew hend
          obtain ⟨j, hj⟩ : ∃ j, k + 1 = j := ⟨_, rfl⟩
          obtain ⟨ko, hko⟩ : ∃ o, k * 3 = o := ⟨_, rfl⟩
          obtain ⟨jo, hjo⟩ : ∃ o, j * 3 = o := ⟨_, rfl⟩
          rw [hko] at x0 x1 x2
          rw [hj, hjo] at y0 y1 y2
          rw [hj] at hjz hg' hjN hjl hnew hj2 hg
          simp only [hj, hjo, hko] at hswp
          have hg1 : decide (a < j) = true := by simp; omega
          have hg2 : a < j := by omega
          have hw1 : IntKind.i64.wrap (k : Int) = (k : Int) := by rw [IntKind.wrap_i64]; omega
          have X0 := fun p : BelowBy wr => cell_below lg x0 p
          have X1 := fun p : BelowBy wr => cell_below lg x1 p
          have X2 := fun p : BelowBy wr => cell_below lg x2 p
          have Y0 := fun p : BelowBy wr => cell_below lg y0 p
          have Y1 := fun p : BelowBy wr => cell_below lg y1 p
          have Y2 := fun p : BelowBy wr => cell_below lg y2 p
          have jc := fun W => jcmp_any y x W
          obtain ⟨xa, xb, xc⟩ := x
          obtain ⟨ya, yb, yc⟩ := y
          dsimp only [evV] at jc X0 X1 X2 Y0 Y1 Y2 kx ky
          have hcz := cmpT_lt ya xa
          obtain ⟨r, hr⟩ : ∃ r, cmpT ya xa = r := ⟨_, rfl⟩
          rw [hr] at hcz
          simp only [hr] at jc
          have JC := Lib.hid jc
          have HRW := Lib.hid hR
          have HRS := Lib.hid hRs
          have HINS := Lib.hid hIns
          have HSWP := Lib.hid hswp
          have HNEW := Lib.hid hnew
          have HEND := Lib.hid hend
          clear jc hR hRs hIns x0 x1 x2 y0 y1 y2 hswp hnew hend
          rw [hj]
          by_cases hc : ya < xa
          · have hcd : decide (r < 0) = true := by rw [hcz]; simpa using hc
            go_upto_region 4 with (fail)
            refine wp_region_below (by kernel_rfl) (by kernel_rfl) ?_
            repeat (quiet_step (first
              | (go_at_call 33; exact below_of (JC.out _))))
            refine wpQuiet_nil ?_
            intro _ hw'
            obtain ⟨pq, hw''⟩ := hw'
            subst hw''
            have x0 := X0 pq
            have x1 := X1 pq
            have x2 := X2 pq
            have y0 := Y0 pq
            have y1 := Y1 pq
            have y2 := Y2 pq
            have fz := (HRW.out.grow pq.h).frozen
            have lg1 := (HRW.out.grow pq.h).lt.2
            have HSW := Lib.hid (HSWP.out pq)
            have HG1 := Lib.hid (grown_trans HGJ.out (grown_bel pq.h))
            clear X0 X1 X2 Y0 Y1 Y2 HSWP
            obtain ⟨W1, hb1⟩ := pq
            dsimp only at x0 x1 x2 y0 y1 y2 fz lg1 HSW HG1 ⊢
            have n0 : ¬ jo = ko := by omega
            have n1 : ¬ jo = ko + 1 := by omega
            have n2 : ¬ jo = ko + 2 := by omega
            have n3 : ¬ jo + 1 = ko := by omega
            have n4 : ¬ jo + 2 = ko := by omega
            have m0 : ¬ ko = jo := by omega
            have m1 : ¬ ko = jo + 1 := by omega
            have m2 : ¬ ko = jo + 2 := by omega
            have m3 : ¬ ko + 1 = jo := by omega
            have m4 : ¬ ko + 2 = jo := by omega
            have HNW := Lib.hid (HNEW.out hc)
            clear HNEW HEND hcz hr kx ky hlen hx hy
            go_upto_region 6 with (fail)
            go_region
            all_goals
              go_wp2
              exact ⟨⟨k, by first | rfl | rw [hjz] | go_num, by omega, by omega, Lib.hid ⟨_, HSW.out.1.drew, HNW.out.1, HNW.out.2⟩, Lib.hid (grown_trans HG1.out (grown_trans HSW.out.2 (grown_drew _ _)))⟩, by simp [intOf]; omega⟩
          · have hcd : decide (r < 0) = false := by rw [hcz]; simpa using hc
            go_upto_region 4 with (fail)
            refine wp_region_below (by kernel_rfl) (by kernel_rfl) ?_
            repeat (quiet_step (first
              | (go_at_call 33; exact below_of (JC.out _))))
            refine wpQuiet_nil ?_
            intro _ hw'
            obtain ⟨pq, hw''⟩ := hw'
            subst hw''
            have HR1 := Lib.hid (HRW.out.grow pq.h)
            have HG1 := Lib.hid (grown_trans HGJ.out (grown_bel pq.h))
            go_wp2
            exact ⟨⟨i + 1, by go_num, by omega, by omega, Lib.hid ⟨L, HR1.out, HRS.out, HEND.out (by omega)⟩, HG1⟩, by simp [intOf]; omega⟩
        · have e : j = a := by omega
          subst e
          have HRW := Lib.hid hR
          have HRS := Lib.hid hRs
          have HSR := Lib.hid (ins_end hIns (.inl rfl))
          clear hR hRs hIns
          have hg1 : decide ((j : Int) < (j : Int)) = false := by simp
          go_upto_region 4 with (fail)
          refine wp_region_below (by kernel_rfl) (by kernel_rfl) ?_
          repeat (go_big_quiet_step (fail))
          refine wpQuiet_nil ?_
          intro _ hw'
          obtain ⟨pq, hw''⟩ := hw'
          subst hw''
          have HR1 := Lib.hid (HRW.out.grow pq.h)
          have HG1 := Lib.hid (grown_trans HGJ.out (grown_bel pq.h))
          go_wp2
          exact ⟨⟨i + 1, by go_num, by omega, by omega, Lib.hid ⟨L, HR1.out, HRS.out, HSR.out⟩, HG1⟩, by simp [intOf]; omega⟩
    · go_wp2
      obtain ⟨L, hR, hRs, hSR⟩ := HR.out
      exact bodyPost_end (results_none rfl _ _ _) rfl ⟨rfl, L, hR, hRs, fun p q h1 h2 h3 => hSR p q h1 h2 (by omega), HG.out⟩
end Go.Proofs.Ythncmjimfkbofaa
end
section
/- The contract of slices.symMergeCmpFunc, on events, where the first part is one event. -/
namespace Go.Proofs.So
open Go.Proofs.Lh Go.Proofs.Bu
/-- What stands from a to b stood there. -/
def Rb (l l' : List Ev) (a b : Nat) : Prop := ∀ p, a ≤ p → p < b → ∃ q, a ≤ q ∧ q < b ∧ kf l' p = kf l q
theorem Rb.refl (l : List Ev) (a b : Nat) : Rb l l a b := fun p h1 h2 => ⟨p, h1, h2, rfl⟩
theorem Rb.trans {l l' l'' : List Ev} {a b : Nat} (h : Rb l l' a b) (k : Rb l' l'' a b) : Rb l l'' a b := fun p h1 h2 => by
  obtain ⟨q, q1, q2, q3⟩ := k p h1 h2
  obtain ⟨r, r1, r2, r3⟩ := h q q1 q2
  exact ⟨r, r1, r2, q3.trans r3⟩
theorem Rb.mono {l l' : List Ev} {a b a' b' : Nat} (h : Rb l l' a b) (k : Rs l l' a b) (ha : a' ≤ a) (hb : b ≤ b') : Rb l l' a' b' := fun p h1 h2 => by
  by_cases c : a ≤ p ∧ p < b
  · obtain ⟨q, q1, q2, q3⟩ := h p c.1 c.2
    exact ⟨q, by omega, by omega, q3⟩
  · exact ⟨p, h1, h2, k.off p (by omega)⟩
/-- What stood at a stands at k; what stood between is one further ahead. -/
def ShL (l L : List Ev) (a k : Nat) : Prop := ∀ p, kf L p = if a ≤ p ∧ p < k then kf l (p + 1) else if p = k then kf l a else kf l p
theorem shl_start (l : List Ev) (a : Nat) : ShL l l a a := fun p => by
  rw [if_neg (by omega)]
  by_cases h : p = a
  · rw [if_pos h, h]
  · rw [if_neg h]
theorem shl_step {l L : List Ev} {a k : Nat} (h : ShL l L a k) (ha : a ≤ k) (hk : k + 1 < L.length) : ShL l (swp L k (k + 1)) a (k + 1) := fun p => by
  have e1 : kf L k = kf l a := by rw [h k, if_neg (by omega), if_pos rfl]
  have e2 : kf L (k + 1) = kf l (k + 1) := by rw [h (k + 1), if_neg (by omega), if_neg (by omega)]
  rw [swp_kf (by omega) hk, e1, e2, h p]
  by_cases c1 : p = k + 1
  · rw [if_pos c1, if_neg (by omega), if_pos c1]
  · rw [if_neg c1]
    by_cases c2 : p = k
    · rw [if_pos c2, if_pos (by omega), c2]
    · rw [if_neg c2]
      by_cases c3 : a ≤ p ∧ p < k
      · rw [if_pos c3, if_pos (by omega)]
      · rw [if_neg c3, if_neg c2, if_neg (by omega), if_neg c1]
theorem shl_rs {l L : List Ev} {a b k i : Nat} (h : ShL l L a k) (hR : Rs l L a b) (ha : a ≤ k) (hki : k + 1 < i) (hib : i ≤ b) (hL : k + 1 < L.length) (hlt : ∀ p, a < p → p < i → kf l p < kf l a) : Rs l (swp L k (k + 1)) a b := by
  refine hR.trans (swp_rs hL ?_ ha (by omega))
  rw [h k, h (k + 1), if_neg (by omega), if_pos rfl, if_neg (by omega), if_neg (by omega)]
  have := hlt (k + 1) (by omega) hki
  omega
theorem shl_end {l L : List Ev} {a b i : Nat} (h : ShL l L a (i - 1)) (hai : a < i) (hib : i ≤ b) (hs : SR l (a + 1) b) (hlt : ∀ p, a < p → p < i → kf l p < kf l a) (hge : ∀ p, i ≤ p → p < b → kf l a ≤ kf l p) : SR L a b ∧ Rb l L a b := by
  refine ⟨fun p q h1 h2 h3 => ?_, fun p h1 h2 => ?_⟩
  · rw [h p, h q]
    by_cases c1 : a ≤ q ∧ q < i - 1
    · rw [if_pos c1, if_pos (by omega)]
      exact hs _ _ (by omega) (by omega) (by omega)
    · rw [if_neg c1]
      by_cases c2 : q = i - 1
      · rw [if_pos c2]
        by_cases c3 : a ≤ p ∧ p < i - 1
        · rw [if_pos c3]
          exact Nat.le_of_lt (hlt _ (by omega) (by omega))
        · rw [if_neg c3, if_pos (by omega)]
          exact Nat.le_refl _
      · rw [if_neg c2]
        by_cases c3 : a ≤ p ∧ p < i - 1
        · rw [if_pos c3]
          exact hs _ _ (by omega) (by omega) (by omega)
        · rw [if_neg c3]
          by_cases c4 : p = i - 1
          · rw [if_pos c4]
            exact hge _ (by omega) (by omega)
          · rw [if_neg c4]
            exact hs _ _ (by omega) (by omega) (by omega)
  · rw [h p]
    by_cases c1 : a ≤ p ∧ p < i - 1
    · exact ⟨p + 1, by omega, by omega, by rw [if_pos c1]⟩
    · by_cases c2 : p = i - 1
      · exact ⟨a, by omega, by omega, by rw [if_neg c1, if_pos c2]⟩
      · exact ⟨p, h1, h2, by rw [if_neg c1, if_neg c2]⟩
end Go.Proofs.So
namespace Go.Proofs.Ythncmjimfkbofaa
set_option linter.unusedVariables false
open Go.RowKit Go.Shelf Go.Proofs.Rw Go.Proofs.Lh Go.Proofs.Bu Go.Proofs.So

set_option maxRecDepth 100000 in
set_option maxHeartbeats 4000000 in
theorem smerge1_any (a b : Nat) (l : List Ev) (N g cap base : Nat) (hab : a + 1 < b) (hbn : b ≤ N) (hN : N ≤ 1000000) (hs : SR l (a + 1) b) (w : World) (h : RowN w base g cap N l) :
    Calls Try.prog 76 #[.slice (some ⟨g, 0, none⟩) N cap, .int .i64 (a : Int), .int .i64 ((a + 1 : Nat) : Int), .int .i64 (b : Int), cmpV] w fun e w' => e = .returned (.tuple #[]) ∧ ∃ l', RowN w' base g cap N l' ∧ Rs l l' a b ∧ Rb l l' a b ∧ SR l' a b ∧ w.grownBy w' (some g) := by
  unfold cmpV
  have hlen := h.len
  have HR0 := Lib.hid h
  have hm1 : ((a + 1 : Nat) : Int) - (a : Int) = 1 := by omega
  obtain ⟨m, hm⟩ : ∃ m, a + 1 = m := ⟨_, rfl⟩
  have hal : a < l.length := by omega
  obtain ⟨y, hy⟩ : ∃ y, l[a] = y := ⟨_, rfl⟩
  have ky : kf l a = y.1 := by rw [kf_at hal, hy]
  have y012 := fun (W : World) (hW : RowN W base g cap N l) => hW.at hal
  rw [hy] at y012
  obtain ⟨ao, hao⟩ : ∃ o, a * 3 = o := ⟨_, rfl⟩
  simp only [hao] at y012
  obtain ⟨ya, yb, yc⟩ := y
  dsimp only at y012 ky
  rw [hm] at hm1 hs ⊢
  have Y012 := Lib.hid y012
  have HS := Lib.hid hs
  clear h y012 hs
  have haN : a < N := by omega
  go_enter Try.func76, Try.ntmps76
  go_wp2
  go_loopw [10, 11] (fun s10 s11 wr => ∃ i j : Nat, s10 = .int .i64 (i : Int) ∧ s11 = .int .i64 (j : Int) ∧ m ≤ i ∧ i ≤ j ∧ j ≤ b ∧ Hid (RowN wr base g cap N l) ∧ Hid (∀ p, a < p → p < i → kf l p < kf l a) ∧ Hid (∀ p, j ≤ p → p < b → kf l a ≤ kf l p) ∧ Hid (w.grownBy wr (some g))) (fun s10 s11 _ => (intOf s11 - intOf s10).toNat)
  case atStart => exact ⟨m, b, rfl, rfl, Nat.le_refl _, by omega, Nat.le_refl _, HR0, Lib.hid (fun p h1 h2 => by omega), Lib.hid (fun p h1 h2 => by omega), Lib.hid ⟨rfl, rfl, rfl, Nat.le_refl _, fun _ _ _ => rfl⟩⟩
  case round =>
    obtain ⟨i, j, rfl, rfl, hi, hij, hjb, HR, HLT, HGE, HG⟩ := hrel
    clear HR0
    by_cases hlt : i < j
    · obtain ⟨k, hk⟩ : ∃ k, (i + j) / 2 = k := ⟨_, rfl⟩
      have hkz : ((i : Int) + (j : Int)) / 2 = (k : Int) := by omega
      have hk1 : i ≤ k := by omega
      have hk2 : k < j := by omega
      have hkl : k < l.length := by omega
      have hkN : k < N := by omega
      obtain ⟨x, hx⟩ : ∃ x, l[k] = x := ⟨_, rfl⟩
      have lg := HR.out.lt.2
      obtain ⟨x0, x1, x2⟩ := HR.out.at hkl
      obtain ⟨y0, y1, y2⟩ := Y012.out _ HR.out
      rw [hx] at x0 x1 x2
      have kx : kf l k = x.1 := by rw [kf_at hkl, hx]
      obtain ⟨ko, hko⟩ : ∃ o, k * 3 = o := ⟨_, rfl⟩
      rw [hko] at x0 x1 x2
      have X0 := fun p : BelowBy wr => cell_below lg x0 p
      have X1 := fun p : BelowBy wr => cell_below lg x1 p
      have X2 := fun p : BelowBy wr => cell_below lg x2 p
      have Y0 := fun p : BelowBy wr => cell_below lg y0 p
      have Y1 := fun p : BelowBy wr => cell_below lg y1 p
      have Y2 := fun p : BelowBy wr => cell_below lg y2 p
      have jc := fun W => jcmp_any x (ya, yb, yc) W
      obtain ⟨xa, xb, xc⟩ := x
      dsimp only [evV] at jc X0 X1 X2 Y0 Y1 Y2 kx
      have hcz := cmpT_lt xa ya
      obtain ⟨r, hr⟩ : ∃ r, cmpT xa ya = r := ⟨_, rfl⟩
      rw [hr] at hcz
      simp only [hr] at jc
      have JC := Lib.hid jc
      have KX := Lib.hid kx
      clear jc x0 x1 x2 y0 y1 y2 hk hx kx
      by_cases hc : xa < ya
      · have hcd : decide (r < 0) = true := by rw [hcz]; simpa using hc
        have HLT2 := Lib.hid (show ∀ p, a < p → p < k + 1 → kf l p < kf l a from fun p h1 h2 => Nat.lt_of_le_of_lt (HS.out p k (by omega) (by omega) (by omega)) (by rw [KX.out, ky]; exact hc))
        clear hcz
        go_upto_region 5 with (fail)
        refine wp_region_below (by kernel_rfl) (by kernel_rfl) ?_
        repeat (quiet_step (first
          | (go_at_call 33; exact below_of (JC.out _))))
        refine wpQuiet_nil ?_
        intro _ hw'
        obtain ⟨pq, hw''⟩ := hw'
        subst hw''
        have HR1 := Lib.hid (HR.out.grow pq.h)
        have HG1 := Lib.hid (grown_trans HG.out (grown_bel pq.h))
        go_wp2
        exact ⟨⟨k + 1, j, by go_num, rfl, by omega, hk2, hjb, HR1, HLT2, HGE, HG1⟩, by simp [intOf]; omega⟩
      · have hcd : decide (r < 0) = false := by rw [hcz]; simpa using hc
        have HGE2 := Lib.hid (show ∀ p, k ≤ p → p < b → kf l a ≤ kf l p from fun p h1 h2 => Nat.le_trans (by rw [KX.out, ky]; omega) (HS.out k p (by omega) h1 h2))
        clear hcz
        go_upto_region 5 with (fail)
        refine wp_region_below (by kernel_rfl) (by kernel_rfl) ?_
        repeat (quiet_step (first
          | (go_at_call 33; exact below_of (JC.out _))))
        refine wpQuiet_nil ?_
        intro _ hw'
        obtain ⟨pq, hw''⟩ := hw'
        subst hw''
        have HR1 := Lib.hid (HR.out.grow pq.h)
        have HG1 := Lib.hid (grown_trans HG.out (grown_bel pq.h))
        go_wp2
        exact ⟨⟨i, k, rfl, rfl, hi, hk1, by omega, HR1, HLT, HGE2, HG1⟩, by simp [intOf]; omega⟩
    · have e : j = i := by omega
      subst e
      have HL0 := Lib.hid (show ∃ L, RowN wr base g cap N L ∧ Rs l L a b ∧ ShL l L a a from ⟨l, HR.out, Rs.refl _ _ _, shl_start _ _⟩)
      clear HR Y012
      obtain ⟨e1, he1⟩ : ∃ e1, j - 1 = e1 := ⟨_, rfl⟩
      have hez : (j : Int) - 1 = (e1 : Int) := by omega
      go_wp2
      go_loopw [13] (fun s13 wr => ∃ k : Nat, s13 = .int .i64 (k : Int) ∧ a ≤ k ∧ k ≤ e1 ∧ Hid (∃ L, RowN wr base g cap N L ∧ Rs l L a b ∧ ShL l L a k) ∧ Hid (w.grownBy wr (some g))) (fun s13 _ => e1 - (intOf s13).toNat)
      case atStart => exact ⟨a, rfl, Nat.le_refl _, by omega, HL0, HG⟩
      case round =>
        obtain ⟨k, rfl, hk1, hk2, HL, HGJ⟩ := hrel
        clear HL0
        by_cases hlt3 : k < e1
        · obtain ⟨L, hR, hRs, hSh⟩ := HL.out
          have hln := hR.len
          have hkl : k < L.length := by omega
          have hql : k + 1 < L.length := by omega
          have hqN : k + 1 < N := by omega
          have hkN : k < N := by omega
          obtain ⟨x, hx⟩ : ∃ x, L[k] = x := ⟨_, rfl⟩
          obtain ⟨z, hz⟩ : ∃ z, L[k + 1] = z := ⟨_, rfl⟩
          obtain ⟨x0, x1, x2⟩ := hR.at hkl
          obtain ⟨z0, z1, z2⟩ := hR.at hql
          have fz := hR.frozen
          have lg := hR.lt.2
          rw [hx] at x0 x1 x2
          rw [hz] at z0 z1 z2
          have hsw := hR.swap hkl hql hx hz
          have hnew := shl_rs hSh hRs hk1 (show k + 1 < j by omega) hjb hql HLT.out
          have hnew2 := shl_step hSh hk1 hql
          have hqz : (k : Int) + 1 = ((k + 1 : Nat) : Int) := by omega
          obtain ⟨q, hq⟩ : ∃ q, k + 1 = q := ⟨_, rfl⟩
          obtain ⟨ko, hko⟩ : ∃ o, k * 3 = o := ⟨_, rfl⟩
          obtain ⟨qo, hqo⟩ : ∃ o, q * 3 = o := ⟨_, rfl⟩
          rw [hq] at hqz hqN hnew hnew2 hsw z0 z1 z2
          rw [hko] at x0 x1 x2 hsw
          rw [hqo] at z0 z1 z2 hsw
          have HSW := Lib.hid hsw
          have HNEW := Lib.hid hnew
          have HNEW2 := Lib.hid hnew2
          clear hsw hnew hnew2 hR hRs hSh hx hz HL hln hkl hql
          have n0 : ¬ qo = ko := by omega
          have n1 : ¬ qo = ko + 1 := by omega
          have n2 : ¬ qo = ko + 2 := by omega
          have n3 : ¬ qo + 1 = ko := by omega
          have n4 : ¬ qo + 2 = ko := by omega
          obtain ⟨xa, xb, xc⟩ := x
          obtain ⟨za, zb, zc⟩ := z
          dsimp only at x0 x1 x2 z0 z1 z2 HSW
          go_upto_region 11 with (fail)
          go_region
          all_goals
            go_wp2
            exact ⟨⟨q, by first | rfl | rw [hqz] | go_num, by omega, by omega, Lib.hid ⟨_, HSW.out.1.drew, HNEW.out, HNEW2.out⟩, Lib.hid (grown_trans HGJ.out (grown_trans HSW.out.2 (grown_drew _ _)))⟩, by simp [intOf]; omega⟩
        · have e : k = e1 := by omega
          subst e
          go_wp2
          obtain ⟨L, hR, hRs, hSh⟩ := HL.out
          rw [← he1] at hSh
          obtain ⟨f1, f2⟩ := shl_end hSh (by omega) hjb (by rw [hm]; exact HS.out) HLT.out HGE.out
          exact bodyPost_ret (v := .tuple #[]) (by first | exact results_none rfl _ _ _ | simp [results, go_sem]) rfl ⟨rfl, L, hR, hRs, f2, f1, HGJ.out⟩
end Go.Proofs.Ythncmjimfkbofaa
end
section
/- The contract of slices.symMergeCmpFunc, on events, where the second part is one event. -/
namespace Go.Proofs.So
open Go.Proofs.Lh Go.Proofs.Bu
/-- What stood at m stands at k; what stood between is one further behind. -/
def ShR (l L : List Ev) (k m : Nat) : Prop := ∀ p, kf L p = if k < p ∧ p ≤ m then kf l (p - 1) else if p = k then kf l m else kf l p
theorem shr_start (l : List Ev) (m : Nat) : ShR l l m m := fun p => by
  rw [if_neg (by omega)]
  by_cases h : p = m
  · rw [if_pos h, h]
  · rw [if_neg h]
theorem shr_step {l L : List Ev} {k m : Nat} (h : ShR l L (k + 1) m) (ha : k + 1 ≤ m) (hk : k + 1 < L.length) : ShR l (swp L (k + 1) k) k m := fun p => by
  have e1 : kf L (k + 1) = kf l m := by rw [h (k + 1), if_neg (by omega), if_pos rfl]
  have e2 : kf L k = kf l k := by rw [h k, if_neg (by omega), if_neg (by omega)]
  rw [swp_comm (by omega), swp_kf (by omega) hk, e1, e2, h p]
  by_cases c1 : p = k + 1
  · rw [if_pos c1, if_pos (by omega), c1]
    rfl
  · rw [if_neg c1]
    by_cases c2 : p = k
    · rw [if_pos c2, if_neg (by omega), if_pos c2]
    · rw [if_neg c2]
      by_cases c3 : k + 1 < p ∧ p ≤ m
      · rw [if_pos c3, if_pos (by omega)]
      · rw [if_neg c3, if_neg c1, if_neg (by omega), if_neg c2]
theorem shr_rs {l L : List Ev} {a b k i m : Nat} (h : ShR l L (k + 1) m) (hR : Rs l L a b) (hik : i ≤ k) (hai : a ≤ i) (hkm : k + 1 ≤ m) (hmb : m < b) (hL : k + 1 < L.length) (hlt : ∀ p, i ≤ p → p < m → kf l m < kf l p) : Rs l (swp L (k + 1) k) a b := by
  rw [swp_comm (by omega)]
  refine hR.trans (swp_rs hL ?_ (by omega) (by omega))
  rw [h k, h (k + 1), if_neg (by omega), if_neg (by omega), if_neg (by omega), if_pos rfl]
  have := hlt k hik (by omega)
  omega
theorem shr_end {l L : List Ev} {a i m : Nat} (h : ShR l L i m) (hai : a ≤ i) (him : i ≤ m) (hs : SR l a m) (hle : ∀ p, a ≤ p → p < i → kf l p ≤ kf l m) (hlt : ∀ p, i ≤ p → p < m → kf l m < kf l p) : SR L a (m + 1) ∧ Rb l L a (m + 1) := by
  refine ⟨fun p q h1 h2 h3 => ?_, fun p h1 h2 => ?_⟩
  · rw [h p, h q]
    by_cases c1 : i < q ∧ q ≤ m
    · rw [if_pos c1]
      by_cases c2 : i < p ∧ p ≤ m
      · rw [if_pos c2]
        exact hs _ _ (by omega) (by omega) (by omega)
      · rw [if_neg c2]
        by_cases c3 : p = i
        · rw [if_pos c3]
          exact Nat.le_of_lt (hlt _ (by omega) (by omega))
        · rw [if_neg c3]
          exact hs _ _ (by omega) (by omega) (by omega)
    · rw [if_neg c1, if_neg (show ¬ (i < p ∧ p ≤ m) by omega)]
      by_cases c2 : q = i
      · rw [if_pos c2]
        by_cases c3 : p = i
        · rw [if_pos c3]; exact Nat.le_refl _
        · rw [if_neg c3]; exact hle _ h1 (by omega)
      · rw [if_neg c2, if_neg (by omega)]
        exact hs _ _ (by omega) (by omega) (by omega)
  · rw [h p]
    by_cases c1 : i < p ∧ p ≤ m
    · exact ⟨p - 1, by omega, by omega, by rw [if_pos c1]⟩
    · by_cases c2 : p = i
      · exact ⟨m, by omega, by omega, by rw [if_neg c1, if_pos c2]⟩
      · exact ⟨p, h1, h2, by rw [if_neg c1, if_neg c2]⟩
end Go.Proofs.So
namespace Go.Proofs.Ythncmjimfkbofaa
set_option linter.unusedVariables false
open Go.RowKit Go.Shelf Go.Proofs.Rw Go.Proofs.Lh Go.Proofs.Bu Go.Proofs.So

set_option maxRecDepth 100000 in
set_option maxHeartbeats 4000000 in
theorem smerge2_any (a m : Nat) (l : List Ev) (N g cap base : Nat) (ham : a + 2 ≤ m) (hbn : m + 1 ≤ N) (hN : N ≤ 1000000) (hs : SR l a m) (w : World) (h : RowN w base g cap N l) :
    Calls Try.prog 76 #[.slice (some ⟨g, 0, none⟩) N cap, .int .i64 (a : Int), .int .i64 (m : Int), .int .i64 ((m + 1 : Nat) : Int), cmpV] w fun e w' => e = .returned (.tuple #[]) ∧ ∃ l', RowN w' base g cap N l' ∧ Rs l l' a (m + 1) ∧ Rb l l' a (m + 1) ∧ SR l' a (m + 1) ∧ w.grownBy w' (some g) := by
  unfold cmpV
  have hlen := h.len
  have HR0 := Lib.hid h
  have hm1 : ((m + 1 : Nat) : Int) - (m : Int) = 1 := by omega
  obtain ⟨d, hd⟩ : ∃ d, m - a = d := ⟨_, rfl⟩
  have hdz : (m : Int) - (a : Int) = (d : Int) := by omega
  have hdne : ((d : Int) == 1) = false := by rw [beq_eq_false_iff_ne]; omega
  have hdn : ¬ d = 1 := by omega
  obtain ⟨b, hb⟩ : ∃ b, m + 1 = b := ⟨_, rfl⟩
  have hml : m < l.length := by omega
  obtain ⟨y, hy⟩ : ∃ y, l[m] = y := ⟨_, rfl⟩
  have ky : kf l m = y.1 := by rw [kf_at hml, hy]
  have y012 := fun (W : World) (hW : RowN W base g cap N l) => hW.at hml
  rw [hy] at y012
  obtain ⟨mo, hmo⟩ : ∃ o, m * 3 = o := ⟨_, rfl⟩
  simp only [hmo] at y012
  obtain ⟨ya, yb, yc⟩ := y
  dsimp only at y012 ky
  rw [hb] at hm1 hbn ⊢
  have Y012 := Lib.hid y012
  have HS := Lib.hid hs
  clear h y012 hs
  have hmN : m < N := by omega
  go_enter Try.func76, Try.ntmps76
  go_wp2
  go_loopw [14, 15] (fun s14 s15 wr => ∃ i j : Nat, s14 = .int .i64 (i : Int) ∧ s15 = .int .i64 (j : Int) ∧ a ≤ i ∧ i ≤ j ∧ j ≤ m ∧ Hid (RowN wr base g cap N l) ∧ Hid (∀ p, a ≤ p → p < i → kf l p ≤ kf l m) ∧ Hid (∀ p, j ≤ p → p < m → kf l m < kf l p) ∧ Hid (w.grownBy wr (some g))) (fun s14 s15 _ => (intOf s15 - intOf s14).toNat)
  case atStart => exact ⟨a, m, rfl, rfl, Nat.le_refl _, by omega, Nat.le_refl _, HR0, Lib.hid (fun p h1 h2 => by omega), Lib.hid (fun p h1 h2 => by omega), Lib.hid ⟨rfl, rfl, rfl, Nat.le_refl _, fun _ _ _ => rfl⟩⟩
  case round =>
    obtain ⟨i, j, rfl, rfl, hi, hij, hjb, HR, HLE, HGT, HG⟩ := hrel
    clear HR0
    by_cases hlt : i < j
    · obtain ⟨k, hk⟩ : ∃ k, (i + j) / 2 = k := ⟨_, rfl⟩
      have hkz : ((i : Int) + (j : Int)) / 2 = (k : Int) := by omega
      have hk1 : i ≤ k := by omega
      have hk2 : k < j := by omega
      have hkl : k < l.length := by omega
      have hkN : k < N := by omega
      obtain ⟨x, hx⟩ : ∃ x, l[k] = x := ⟨_, rfl⟩
      have lg := HR.out.lt.2
      obtain ⟨x0, x1, x2⟩ := HR.out.at hkl
      obtain ⟨y0, y1, y2⟩ := Y012.out _ HR.out
      rw [hx] at x0 x1 x2
      have kx : kf l k = x.1 := by rw [kf_at hkl, hx]
      obtain ⟨ko, hko⟩ : ∃ o, k * 3 = o := ⟨_, rfl⟩
      rw [hko] at x0 x1 x2
      have X0 := fun p : BelowBy wr => cell_below lg x0 p
      have X1 := fun p : BelowBy wr => cell_below lg x1 p
      have X2 := fun p : BelowBy wr => cell_below lg x2 p
      have Y0 := fun p : BelowBy wr => cell_below lg y0 p
      have Y1 := fun p : BelowBy wr => cell_below lg y1 p
      have Y2 := fun p : BelowBy wr => cell_below lg y2 p
      have jc := fun W => jcmp_any (ya, yb, yc) x W
      obtain ⟨xa, xb, xc⟩ := x
      dsimp only [evV] at jc X0 X1 X2 Y0 Y1 Y2 kx
      have hcz := cmpT_lt ya xa
      obtain ⟨r, hr⟩ : ∃ r, cmpT ya xa = r := ⟨_, rfl⟩
      rw [hr] at hcz
      simp only [hr] at jc
      have JC := Lib.hid jc
      have KX := Lib.hid kx
      clear jc x0 x1 x2 y0 y1 y2 hk hx kx
      by_cases hc : ya < xa
      · have hcd : decide (r < 0) = true := by rw [hcz]; simpa using hc
        have HGT2 := Lib.hid (show ∀ p, k ≤ p → p < m → kf l m < kf l p from fun p h1 h2 => Nat.lt_of_lt_of_le (by rw [KX.out, ky]; exact hc) (HS.out k p (by omega) h1 h2))
        clear hcz
        go_upto_region 17 with (fail)
        refine wp_region_below (by kernel_rfl) (by kernel_rfl) ?_
        repeat (quiet_step (first
          | (go_at_call 33; exact below_of (JC.out _))))
        refine wpQuiet_nil ?_
        intro _ hw'
        obtain ⟨pq, hw''⟩ := hw'
        subst hw''
        have HR1 := Lib.hid (HR.out.grow pq.h)
        have HG1 := Lib.hid (grown_trans HG.out (grown_bel pq.h))
        go_wp2
        exact ⟨⟨i, k, rfl, rfl, hi, hk1, by omega, HR1, HLE, HGT2, HG1⟩, by simp [intOf]; omega⟩
      · have hcd : decide (r < 0) = false := by rw [hcz]; simpa using hc
        have HLE2 := Lib.hid (show ∀ p, a ≤ p → p < k + 1 → kf l p ≤ kf l m from fun p h1 h2 => Nat.le_trans (HS.out p k h1 (by omega) (by omega)) (by rw [KX.out, ky]; omega))
        clear hcz
        go_upto_region 17 with (fail)
        refine wp_region_below (by kernel_rfl) (by kernel_rfl) ?_
        repeat (quiet_step (first
          | (go_at_call 33; exact below_of (JC.out _))))
        refine wpQuiet_nil ?_
        intro _ hw'
        obtain ⟨pq, hw''⟩ := hw'
        subst hw''
        have HR1 := Lib.hid (HR.out.grow pq.h)
        have HG1 := Lib.hid (grown_trans HG.out (grown_bel pq.h))
        go_wp2
        exact ⟨⟨k + 1, j, by go_num, rfl, by omega, hk2, hjb, HR1, HLE2, HGT, HG1⟩, by simp [intOf]; omega⟩
    · have e : j = i := by omega
      subst e
      have HL0 := Lib.hid (show ∃ L, RowN wr base g cap N L ∧ Rs l L a b ∧ ShR l L m m from ⟨l, HR.out, Rs.refl _ _ _, shr_start _ _⟩)
      clear HR Y012
      go_wp2
      go_loopw [17] (fun s17 wr => ∃ k : Nat, s17 = .int .i64 (k : Int) ∧ j ≤ k ∧ k ≤ m ∧ Hid (∃ L, RowN wr base g cap N L ∧ Rs l L a b ∧ ShR l L k m) ∧ Hid (w.grownBy wr (some g))) (fun s17 _ => (intOf s17).toNat)
      case atStart => exact ⟨m, rfl, hjb, Nat.le_refl _, HL0, HG⟩
      case round =>
        obtain ⟨q, rfl, hk1, hk2, HL, HGJ⟩ := hrel
        clear HL0
        by_cases hlt3 : j < q
        · obtain ⟨L, hR, hRs, hSh⟩ := HL.out
          obtain ⟨k, rfl⟩ : ∃ k, q = k + 1 := ⟨q - 1, by omega⟩
          have hln := hR.len
          have hkl : k < L.length := by omega
          have hql : k + 1 < L.length := by omega
          have hqN : k + 1 < N := by omega
          have hkN : k < N := by omega
          obtain ⟨x, hx⟩ : ∃ x, L[k] = x := ⟨_, rfl⟩
          obtain ⟨z, hz⟩ : ∃ z, L[k + 1] = z := ⟨_, rfl⟩
          obtain ⟨x0, x1, x2⟩ := hR.at hkl
          obtain ⟨z0, z1, z2⟩ := hR.at hql
          have fz := hR.frozen
          have lg := hR.lt.2
          rw [hx] at x0 x1 x2
          rw [hz] at z0 z1 z2
          have hsw := hR.swap hql hkl hz hx
          have hnew := shr_rs hSh hRs (show j ≤ k by omega) hi hk2 (show m < b by omega) hql HGT.out
          have hnew2 := shr_step hSh hk2 hql
          have hqz : ((k + 1 : Nat) : Int) - 1 = (k : Int) := by omega
          have hw1 : IntKind.i64.wrap (k : Int) = (k : Int) := by rw [IntKind.wrap_i64]; omega
          obtain ⟨q, hq⟩ : ∃ q, k + 1 = q := ⟨_, rfl⟩
          obtain ⟨ko, hko⟩ : ∃ o, k * 3 = o := ⟨_, rfl⟩
          obtain ⟨qo, hqo⟩ : ∃ o, q * 3 = o := ⟨_, rfl⟩
          rw [hq] at hqz hqN hnew hnew2 hsw z0 z1 z2 hlt3 ⊢
          rw [hko] at x0 x1 x2 hsw
          rw [hqo] at z0 z1 z2 hsw
          have HSW := Lib.hid hsw
          have HNEW := Lib.hid hnew
          have HNEW2 := Lib.hid hnew2
          clear hsw hnew hnew2 hR hRs hSh hx hz HL hln hkl hql
          have n0 : ¬ qo = ko := by omega
          have n1 : ¬ qo = ko + 1 := by omega
          have n2 : ¬ qo = ko + 2 := by omega
          have n3 : ¬ qo + 1 = ko := by omega
          have n4 : ¬ qo + 2 = ko := by omega
          have m0 : ¬ ko = qo := by omega
          have m1 : ¬ ko = qo + 1 := by omega
          have m2 : ¬ ko = qo + 2 := by omega
          have m3 : ¬ ko + 1 = qo := by omega
          have m4 : ¬ ko + 2 = qo := by omega
          obtain ⟨xa, xb, xc⟩ := x
          obtain ⟨za, zb, zc⟩ := z
          dsimp only at x0 x1 x2 z0 z1 z2 HSW
          go_upto_region 23 with (fail)
          go_region
          all_goals
            go_wp2
            exact ⟨⟨k, by first | rfl | rw [hqz] | go_num, by omega, by omega, Lib.hid ⟨_, HSW.out.1.drew, HNEW.out, HNEW2.out⟩, Lib.hid (grown_trans HGJ.out (grown_trans HSW.out.2 (grown_drew _ _)))⟩, by simp [intOf]; omega⟩
        · have e : q = j := by omega
          subst e
          go_wp2
          obtain ⟨L, hR, hRs, hSh⟩ := HL.out
          obtain ⟨f1, f2⟩ := shr_end hSh hi hk2 HS.out HLE.out HGT.out
          rw [hb] at f1 f2
          exact bodyPost_ret (v := .tuple #[]) (by first | exact results_none rfl _ _ _ | simp [results, go_sem]) rfl ⟨rfl, L, hR, hRs, f2, f1, HGJ.out⟩
end Go.Proofs.Ythncmjimfkbofaa
end
section
/- Plain mathematics of a merge by turning parts about. -/
namespace Go.Proofs.So
set_option linter.unusedVariables false
open Go.Proofs.Lh Go.Proofs.Bu

theorem four {l : List Ev} {s m e : Nat} (h1 : s ≤ m) (h2 : m ≤ e) (h3 : e ≤ l.length) : ∃ P U V S : List Ev, l = P ++ U ++ V ++ S ∧ P.length = s ∧ s + U.length = m ∧ m + V.length = e := by
  have a1 := List.take_append_drop s l
  have a2 := List.take_append_drop (m - s) (l.drop s)
  have a3 := List.take_append_drop (e - m) ((l.drop s).drop (m - s))
  refine ⟨l.take s, (l.drop s).take (m - s), ((l.drop s).drop (m - s)).take (e - m), ((l.drop s).drop (m - s)).drop (e - m), ?_, ?_, ?_, ?_⟩
  · rw [List.append_assoc, List.append_assoc, a3, a2, a1]
  · rw [List.length_take]; omega
  · rw [List.length_take, List.length_drop]; omega
  · rw [List.length_take, List.length_drop, List.length_drop]; omega
theorem kf_l {A B : List Ev} {p : Nat} (h : p < A.length) : kf (A ++ B) p = kf A p := by unfold kf; rw [List.getElem?_append_left h]
theorem kf_r {A B : List Ev} {p : Nat} (h : A.length ≤ p) : kf (A ++ B) p = kf B (p - A.length) := by unfold kf; rw [List.getElem?_append_right h]
/-- The ticks of four parts. -/
theorem kf_four (P U V S : List Ev) (p : Nat) : kf (P ++ U ++ V ++ S) p = if p < P.length then kf P p else if p < P.length + U.length then kf U (p - P.length) else if p < P.length + U.length + V.length then kf V (p - (P.length + U.length)) else kf S (p - (P.length + U.length + V.length)) := by
  by_cases c1 : p < P.length
  · rw [if_pos c1, kf_l (by simp; omega), kf_l (by simp; omega), kf_l c1]
  · rw [if_neg c1]
    by_cases c2 : p < P.length + U.length
    · rw [if_pos c2, kf_l (by simp; omega), kf_l (by simp; omega), kf_r (by omega)]
    · rw [if_neg c2]
      by_cases c3 : p < P.length + U.length + V.length
      · rw [if_pos c3, kf_l (by simp; omega), kf_r (by simp; omega), List.length_append]
      · rw [if_neg c3, kf_r (by simp; omega), List.length_append, List.length_append]
theorem rot_kf {P U V S : List Ev} {s m e mid : Nat} (h1 : P.length = s) (h2 : s + U.length = m) (h3 : m + V.length = e) (hmid : mid + m = e + s) (p : Nat) :
    kf (P ++ V ++ U ++ S) p = if p < s then kf (P ++ U ++ V ++ S) p else if p < mid then kf (P ++ U ++ V ++ S) (p - s + m) else if p < e then kf (P ++ U ++ V ++ S) (p - mid + s) else kf (P ++ U ++ V ++ S) p := by
  subst h1 h2 h3
  rw [kf_four P V U S]
  by_cases c1 : p < P.length
  · rw [if_pos c1, if_pos c1, kf_four, if_pos c1]
  · rw [if_neg c1, if_neg c1]
    by_cases c2 : p < mid
    · rw [if_pos (by omega), if_pos c2, kf_four, if_neg (by omega), if_neg (by omega), if_pos (by omega)]
      congr 1
      omega
    · rw [if_neg (by omega), if_neg c2]
      by_cases c3 : p < P.length + U.length + V.length
      · rw [if_pos (by omega), if_pos c3, kf_four, if_neg (by omega), if_pos (by omega)]
        congr 1
        omega
      · rw [if_neg (by omega), if_neg c3, kf_four, if_neg (by omega), if_neg (by omega), if_neg (by omega)]
        congr 1
        omega
theorem kf_mem {U : List Ev} {x : Ev} (h : x ∈ U) : ∃ p, p < U.length ∧ kf U p = x.1 := by
  obtain ⟨p, hp, e⟩ := List.getElem_of_mem h
  exact ⟨p, hp, by rw [kf_at hp, e]⟩

theorem sym_split {l : List Ev} {a m b s0 r0 n s : Nat} (hs1 : SR l a m) (hs2 : SR l m b) (ha : a ≤ s0) (hr : r0 ≤ m) (hs0 : s0 ≤ s) (hsr : s ≤ r0) (hn1 : m + r0 ≤ n) (hn2 : n ≤ b + s0) (hb1 : s0 = a ∨ n = b + s0) (hb2 : r0 = m ∨ n = m + r0)
    (hlo : ∀ c, s0 ≤ c → c < s → kf l c ≤ kf l (n - 1 - c)) (hhi : ∀ c, s ≤ c → c < r0 → kf l (n - 1 - c) < kf l c) :
    (∀ x y, s ≤ x → x < m → m ≤ y → y < n - s → kf l y < kf l x) ∧ (∀ x y, a ≤ x → x < s → n - s ≤ y → y < b → kf l x ≤ kf l y) := by
  refine ⟨fun x y x1 x2 y1 y2 => ?_, fun x y x1 x2 y1 y2 => ?_⟩
  · have c : s < r0 := by omega
    have k1 := hs2 y (n - 1 - s) y1 (by omega) (by omega)
    have k2 := hhi s (Nat.le_refl _) c
    have k3 := hs1 s x (by omega) x1 x2
    omega
  · have c : s0 < s := by omega
    have k1 := hs1 x (s - 1) x1 (by omega) (by omega)
    have k2 := hlo (s - 1) (by omega) (by omega)
    have k3 := hs2 (n - 1 - (s - 1)) y (by omega) (by omega) y2
    omega
theorem sym_l1 {P U V S : List Ev} {a b s m e mid : Nat} (h1 : P.length = s) (h2 : s + U.length = m) (h3 : m + V.length = e) (hmid : mid + m = e + s) (ha : a ≤ s) (he : e ≤ b)
    (hs1 : SR (P ++ U ++ V ++ S) a m) (hs2 : SR (P ++ U ++ V ++ S) m b) (hA : ∀ x y, s ≤ x → x < m → m ≤ y → y < e → kf (P ++ U ++ V ++ S) y < kf (P ++ U ++ V ++ S) x) (hB : ∀ x y, a ≤ x → x < s → e ≤ y → y < b → kf (P ++ U ++ V ++ S) x ≤ kf (P ++ U ++ V ++ S) y) :
    Rs (P ++ U ++ V ++ S) (P ++ V ++ U ++ S) a b ∧ Rb (P ++ U ++ V ++ S) (P ++ V ++ U ++ S) a b ∧ SR (P ++ V ++ U ++ S) a s ∧ SR (P ++ V ++ U ++ S) s mid ∧ SR (P ++ V ++ U ++ S) mid e ∧ SR (P ++ V ++ U ++ S) e b ∧
      ∀ p q, a ≤ p → p < mid → mid ≤ q → q < b → kf (P ++ V ++ U ++ S) p ≤ kf (P ++ V ++ U ++ S) q := by
  have hk := rot_kf (S := S) h1 h2 h3 hmid
  have hst : Stb (P ++ U ++ V ++ S) (P ++ V ++ U ++ S) := by
    have : Stb (U ++ V) (V ++ U) := stb_swap fun x hx y hy => by
      obtain ⟨p, hp, ep⟩ := kf_mem hx
      obtain ⟨q, hq, eq⟩ := kf_mem hy
      have := hA (s + p) (m + q) (by omega) (by omega) (by omega) (by omega)
      rw [kf_four, kf_four, if_neg (by omega), if_neg (by omega), if_pos (by omega), if_neg (by omega), if_pos (by omega), h1, show m + q - (s + U.length) = q by omega, show s + p - s = p by omega, ep, eq] at this
      omega
    have h := ((Stb.refl P).app this).app (Stb.refl S)
    rw [← List.append_assoc, ← List.append_assoc] at h
    exact h
  have f1 : ∀ p, p < s → kf (P ++ V ++ U ++ S) p = kf (P ++ U ++ V ++ S) p := fun p hp => by rw [hk, if_pos hp]
  have f2 : ∀ p, s ≤ p → p < mid → kf (P ++ V ++ U ++ S) p = kf (P ++ U ++ V ++ S) (p - s + m) := fun p hp hp2 => by rw [hk, if_neg (by omega), if_pos hp2]
  have f3 : ∀ p, mid ≤ p → p < e → kf (P ++ V ++ U ++ S) p = kf (P ++ U ++ V ++ S) (p - mid + s) := fun p hp hp2 => by rw [hk, if_neg (by omega), if_neg (by omega), if_pos hp2]
  have f4 : ∀ p, e ≤ p → kf (P ++ V ++ U ++ S) p = kf (P ++ U ++ V ++ S) p := fun p hp => by rw [hk, if_neg (by omega), if_neg (by omega), if_neg (by omega)]
  have hlen : (P ++ V ++ U ++ S).length = (P ++ U ++ V ++ S).length := by simp only [List.length_append]; omega
  refine ⟨⟨?_, hst, fun p hp => ?_⟩, fun p q1 q2 => ?_, fun p q q1 q2 q3 => ?_, fun p q q1 q2 q3 => ?_, fun p q q1 q2 q3 => ?_, fun p q q1 q2 q3 => ?_, fun p q q1 q2 q3 q4 => ?_⟩
  · exact hlen
  · rcases hp with hp | hp
    · exact f1 p (by omega)
    · exact f4 p (by omega)
  · by_cases c1 : p < s
    · exact ⟨p, q1, q2, f1 p c1⟩
    · by_cases c2 : p < mid
      · exact ⟨p - s + m, by omega, by omega, f2 p (by omega) c2⟩
      · by_cases c3 : p < e
        · exact ⟨p - mid + s, by omega, by omega, f3 p (by omega) c3⟩
        · exact ⟨p, q1, q2, f4 p (by omega)⟩
  · rw [f1 p (by omega), f1 q (by omega)]
    exact hs1 p q q1 q2 (by omega)
  · rw [f2 p (by omega) (by omega), f2 q (by omega) (by omega)]
    exact hs2 _ _ (by omega) (by omega) (by omega)
  · rw [f3 p (by omega) (by omega), f3 q (by omega) (by omega)]
    exact hs1 _ _ (by omega) (by omega) (by omega)
  · rw [f4 p (by omega), f4 q (by omega)]
    exact hs2 _ _ (by omega) (by omega) (by omega)
  · by_cases c1 : p < s
    · rw [f1 p c1]
      by_cases c2 : q < e
      · rw [f3 q q3 c2]
        exact hs1 _ _ (by omega) (by omega) (by omega)
      · rw [f4 q (by omega)]
        exact hB _ _ q1 c1 (by omega) q4
    · rw [f2 p (by omega) q2]
      by_cases c2 : q < e
      · rw [f3 q q3 c2]
        exact Nat.le_of_lt (hA _ _ (by omega) (by omega) (by omega) (by omega))
      · rw [f4 q (by omega)]
        exact hs2 _ _ (by omega) (by omega) (by omega)
theorem sym_end {L1 L2 L3 : List Ev} {a b mid : Nat} (ham : a ≤ mid) (hmb : mid ≤ b) (h1 : Rs L1 L2 a mid) (h2 : Rb L1 L2 a mid) (h3 : SR L2 a mid) (h4 : Rs L2 L3 mid b) (h5 : Rb L2 L3 mid b) (h6 : SR L3 mid b)
    (hc : ∀ p q, a ≤ p → p < mid → mid ≤ q → q < b → kf L1 p ≤ kf L1 q) : Rs L1 L3 a b ∧ Rb L1 L3 a b ∧ SR L3 a b := by
  refine ⟨(h1.mono (Nat.le_refl _) hmb).trans (h4.mono ham (Nat.le_refl _)), (h2.mono h1 (Nat.le_refl _) hmb).trans (h5.mono h4 ham (Nat.le_refl _)), fun p q q1 q2 q3 => ?_⟩
  by_cases c1 : q < mid
  · rw [h4.off p (by omega), h4.off q (by omega)]
    exact h3 p q q1 q2 c1
  · by_cases c2 : mid ≤ p
    · exact h6 p q c2 q2 q3
    · rw [h4.off p (by omega)]
      obtain ⟨x, x1, x2, x3⟩ := h2 p q1 (by omega)
      obtain ⟨y, y1, y2, y3⟩ := h5 q (by omega) q3
      rw [x3, y3, h1.off y (by omega)]
      exact hc x y x1 x2 y1 y2
theorem sr_join {l : List Ev} {a s b : Nat} (h1 : SR l a s) (h2 : SR l s b) (h : s ≤ a ∨ b ≤ s) : SR l a b := fun p q q1 q2 q3 => by
  rcases h with h | h
  · exact h2 p q (by omega) q2 q3
  · exact h1 p q q1 q2 (by omega)
end Go.Proofs.So
end
