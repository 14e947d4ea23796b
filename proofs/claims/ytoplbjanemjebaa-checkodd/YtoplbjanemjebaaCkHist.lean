/- The contracts of check.form and check.Hist. -/
import Derived.Test.YtoplbjanemjebaaCkTurn2
import Derived.Test.YtoplbjanemjebaaCkSharp
namespace Go.Proofs.Lh
theorem tot_cap (M : Nat) : ∀ ls : Lv, (∀ l ∈ ls, l.length ≤ M) → tot ls + M ≤ M * 2 ^ ls.length
  | [], _ => by simp [tot]
  | l :: ls, h => by
    have ih := tot_cap M ls fun x hx => h x (List.mem_cons_of_mem _ hx)
    have h1 := h l List.mem_cons_self
    rw [tot, List.length_cons, Nat.pow_succ, ← Nat.mul_assoc]
    omega
end Go.Proofs.Lh
namespace Go.Proofs.Ytoplbjanemjebaa
open Go.RowKit Go.Shelf Go.Proofs.Rw Go.Proofs.Lh Go.Proofs.Rn

theorem filled_len {k : Nat} {ls : Lv} (h : filledB k ls = true) (i : Nat) (hi : i < ls.length) : (lev ls i).length ≤ rm k i := by
  have := List.all_eq_true.1 h i (List.mem_range.2 hi)
  unfold levOk at this
  rw [decide_eq_true_iff] at this
  exact this.2.1
theorem filled_tot {k : Nat} (hk : k ≤ 1024) {ls : Lv} (h : filledB k ls = true) (hl : ls.length ≤ 52) : tot ls ≤ 4611686018427387904 := by
  cases ls with
  | nil => simp [tot]
  | cons l ls =>
    have h0 := filled_len h 0 (by simp)
    have h1 : (lev (l :: ls) 0).length = l.length := rfl
    have hc := tot_cap 513 ls fun x hx => by
      obtain ⟨i, hi, e⟩ := List.getElem_of_mem hx
      have h2 := filled_len h (i + 1) (by simp; omega)
      rw [lev_lt (by simp; omega), List.getElem_cons_succ, e] at h2
      unfold rm at h2
      rw [if_neg (by omega)] at h2
      omega
    have hp : 2 ^ ls.length ≤ 2 ^ 51 := Nat.pow_le_pow_right (by omega) (by simp at hl; omega)
    unfold rm at h0
    rw [if_pos rfl] at h0
    rw [tot]
    omega

/-- What holds of a histogram, of the first j of five. -/
def okTo (k : Nat) (ls : Lv) (j : Nat) : Prop := (1 ≤ j → ls.length ≤ 52) ∧ (2 ≤ j → filledB k ls = true) ∧ (3 ≤ j → tot ls ≤ 4503599627370496) ∧ (4 ≤ j → flatB ls = true) ∧ (5 ≤ j → inTurn 0 (allOf ls) = true)
theorem good_iff (k : Nat) (ls : Lv) : goodB k ls = true ↔ okTo k ls 5 := by
  unfold goodB shapedB okTo
  rw [Bool.and_eq_true, Bool.and_eq_true, Bool.and_eq_true, Bool.and_eq_true, decide_eq_true_iff, decide_eq_true_iff]
  show ((filledB k ls = true ∧ _) ∧ _) ∧ _ ↔ _
  constructor
  · rintro ⟨⟨⟨a, b⟩, c, d⟩, e⟩
    exact ⟨fun _ => b, fun _ => a, fun _ => e, fun _ => d, fun _ => c⟩
  · rintro ⟨a, b, c, d, e⟩
    exact ⟨⟨⟨b (by omega), a (by omega)⟩, e (by omega), d (by omega)⟩, c (by omega)⟩
theorem chk_two {k : Nat} (hk : 2 ≤ k) (hk1 : k ≤ 1024) {g : Int} (hg : 0 ≤ g ∧ g ≤ 4) {ls : Lv} (h : ¬ okTo k ls 5) : chk (k : Int) g ls = 2 := by
  unfold chk
  rw [if_pos ⟨⟨by omega, by omega⟩, hg⟩, Int.toNat_natCast, if_neg (fun e => h ((good_iff k ls).1 e))]
theorem chk_zero {k : Nat} (hk : 2 ≤ k) (hk1 : k ≤ 1024) {g : Int} (hg : 0 ≤ g ∧ g ≤ 4) {ls : Lv} (h : okTo k ls 5) : chk (k : Int) g ls = 0 := by
  unfold chk
  rw [if_pos ⟨⟨by omega, by omega⟩, hg⟩, Int.toNat_natCast, if_pos ((good_iff k ls).2 h)]
theorem chk_nine {k g : Int} (ls : Lv) (h : okKG k g = false) : chk k g ls = 9 := by
  unfold okKG at h
  rw [decide_eq_false_iff_not] at h
  unfold chk
  rw [if_neg h]

/-- The array of functions. -/
abbrev fiveV : Value := .agg #[.func (.func 37) #[] #[], .func (.func 38) #[] #[], .func (.func 39) #[] #[], .func (.func 40) #[] #[], .func (.func 41) #[] #[]]
theorem store_func (P : Program) (w : World) (a : Addr) (m : Mode) (fn : Fn) (bs lb : Array Value) : (store a (.func fn bs lb) m).run P w = stored P w a (.func fn bs lb) m := run_store P w a _ m rfl
attribute [local go_sem] store_func
theorem form_any (w : World) : Calls Try.prog 23 #[] w fun e w' => e = .returned fiveV ∧ Below w.heap.size w w' := by
  go_enter Try.func23, Try.ntmps23
  go_wp2
  refine bodyPost_ret (v := fiveV) (by simp [results, Try.results23, go_sem]) rfl ⟨rfl, (Below.refl _ w).alloc (Nat.le_refl _) _⟩

theorem five0 (w : World) : (Instr.index 56 fiveV (.int .i64 0)).run Try.prog w = .ok (.func (.func 37) #[] #[]) w := by kernel_rfl
theorem five1 (w : World) : (Instr.index 56 fiveV (.int .i64 1)).run Try.prog w = .ok (.func (.func 38) #[] #[]) w := by kernel_rfl
theorem five2 (w : World) : (Instr.index 56 fiveV (.int .i64 2)).run Try.prog w = .ok (.func (.func 39) #[] #[]) w := by kernel_rfl
theorem five3 (w : World) : (Instr.index 56 fiveV (.int .i64 3)).run Try.prog w = .ok (.func (.func 40) #[] #[]) w := by kernel_rfl
theorem five4 (w : World) : (Instr.index 56 fiveV (.int .i64 4)).run Try.prog w = .ok (.func (.func 41) #[] #[]) w := by kernel_rfl

set_option maxRecDepth 100000 in
set_option maxHeartbeats 4000000 in
theorem hist_any (k g : Int) (ls : Lv) (hl : ls.length ≤ 1000000) (hlv : ∀ i, (lev ls i).length ≤ 1000000) (w : World) (A : Option Addr) (c : Nat) (h : Reads w w.heap.size (.slice A ls.length c) ls) :
    Calls Try.prog 10 #[hv k g (.slice A ls.length c)] w fun e w' => e = .returned (.int .i64 (chk k g ls : Int)) ∧ Below w.heap.size w w' := by
  have hm := fun W => ckMay_any k g W
  obtain ⟨N, hN⟩ : ∃ N, ls.length = N := ⟨_, rfl⟩
  have HL := Lib.hid h
  have HLV := Lib.hid hlv
  have HHL := Lib.hid hl
  rw [hN] at HL ⊢
  have HN := Lib.hid hN
  clear h hN hlv hl
  obtain ⟨W0, hW0⟩ : ∃ W, w.alloc (.cells #[.int .i64 k, .int .i64 g, .slice A N c] 32) = W := ⟨_, rfl⟩
  have hB0 : Below w.heap.size w W0 := by rw [← hW0]; exact (Below.refl _ w).alloc (Nat.le_refl _) _
  have hp0 : W0.heap[w.heap.size]? = some (.cells #[.int .i64 k, .int .i64 g, .slice A N c] 32) := by rw [← hW0]; exact heap_alloc_new w _
  have HW0 := Lib.hid hW0
  have HB0 := Lib.hid hB0
  have HP0 := Lib.hid hp0
  have lw0 := lt_of hp0
  clear hW0 hB0 hp0
  cases hq : okKG k g with
  | false =>
    rw [chk_nine ls hq]
    simp only [hq] at hm
    have HM := Lib.hid hm
    clear hm hq
    go_enter Try.func10, Try.ntmps10
    go_upto_region 1 with (fail)
    rw [HW0.out]
    obtain ⟨x0, x1, x2⟩ := box3 HP0.out
    go_wp2_with (go_at_call 22; (with_reducible refine (HM.out _).mono ?_); rintro e wn ⟨rfl, rfl⟩)
    go_ret
    exact ⟨rfl, HB0.out⟩
  | true =>
    simp only [hq] at hm
    obtain ⟨⟨k0, k1⟩, hg⟩ := of_decide_eq_true hq
    obtain ⟨kn, rfl⟩ : ∃ kn : Nat, k = (kn : Int) := ⟨k.toNat, by omega⟩
    have hk2 : 2 ≤ kn := by omega
    have hk3 : kn ≤ 1024 := by omega
    have two := fun h => chk_two hk2 hk3 hg (ls := ls) h
    have zero := fun h => chk_zero hk2 hk3 hg (ls := ls) h
    obtain ⟨r, hr⟩ : ∃ r, chk (kn : Int) g ls = r := ⟨_, rfl⟩
    rw [hr] at two zero ⊢
    have HM := Lib.hid hm
    have TWO := Lib.hid two
    have ZERO := Lib.hid zero
    clear hm hq two zero hr hg
    go_enter Try.func10, Try.ntmps10
    go_upto_region 1 with (fail)
    rw [HW0.out]
    obtain ⟨x0, x1, x2⟩ := box3 HP0.out
    go_upto_region 4 with (first
      | (go_at_call 22; (with_reducible refine (HM.out _).mono ?_); rintro e wn ⟨rfl, rfl⟩)
      | (go_at_call 23; refine (form_any _).mono ?_; rintro e w1 ⟨rfl, hb1⟩; have HB1 := Lib.hid hb1; clear hb1))
    clear x0 x1 x2
    go_loopw [12] (fun p wr => ∃ j : Nat, p = .int .i64 (j : Int) ∧ j ≤ 5 ∧ Hid (okTo kn ls j) ∧ Hid (Below W0.heap.size W0 wr)) (fun p _ => 5 - (intOf p).toNat)
    case atStart => exact ⟨0, rfl, by omega, Lib.hid ⟨fun h => absurd h (by omega), fun h => absurd h (by omega), fun h => absurd h (by omega), fun h => absurd h (by omega), fun h => absurd h (by omega)⟩, HB1⟩
    case round =>
      obtain ⟨j, rfl, hj, HOK, HB⟩ := hrel
      have hh := (HB.out.block w.heap.size lw0).trans HP0.out
      obtain ⟨x0, x1, x2⟩ := box3 hh
      have lh := lt_of hh
      have hrd : Reads wr wr.heap.size (.slice A ls.length c) ls := by
        rw [HN.out]
        exact HL.out.grow (thn HB0.out HB.out)
      have HRD := Lib.hid hrd
      clear hh hrd
      rcases (show j = 0 ∨ j = 1 ∨ j = 2 ∨ j = 3 ∨ j = 4 ∨ j = 5 by omega) with rfl | rfl | rfl | rfl | rfl | rfl
      · have hcon := few_any (kn : Int) g N A c wr
        obtain ⟨q, hq⟩ : ∃ q, decide (N ≤ 52) = q := ⟨_, rfl⟩
        rw [hq] at hcon
        have HQ := Lib.hid hq
        have HCON := Lib.hid hcon
        clear hq hcon
        rw [show ((0 : Nat) : Int) = 0 from rfl]
        have hix := five0
        cases q with
        | true =>
          go_wp2_with (go_at_call 37; refine HCON.out.mono ?_; rintro e w9 ⟨rfl, hb9⟩; have HB9 := Lib.hid hb9; clear hb9)
          refine ⟨⟨1, rfl, by omega, Lib.hid ⟨fun _ => (by have := of_decide_eq_true HQ.out; rw [HN.out]; exact this), fun h => absurd h (by omega), fun h => absurd h (by omega), fun h => absurd h (by omega), fun h => absurd h (by omega)⟩, Lib.hid (thn HB.out HB9.out)⟩, by simp [intOf]⟩
        | false =>
          go_wp2_with (go_at_call 37; refine HCON.out.mono ?_; rintro e w9 ⟨rfl, hb9⟩; have HB9 := Lib.hid hb9; clear hb9)
          go_ret
          have hr2 := TWO.out (fun h => by have h3 := HQ.out; have h2 := of_decide_eq_false HQ.out; rw [← HN.out] at h2; exact h2 (h.1 (by omega)))
          rw [hr2]
          exact ⟨rfl, thn HB0.out (thn HB.out HB9.out)⟩
      · have hcon := filled_any kn hk2 hk3 g ls HHL.out wr A c HRD.out
        obtain ⟨q, hq⟩ : ∃ q, filledB kn ls = q := ⟨_, rfl⟩
        rw [hq, HN.out] at hcon
        have HQ := Lib.hid hq
        have HCON := Lib.hid hcon
        clear hq hcon
        rw [show ((1 : Nat) : Int) = 1 from rfl]
        have hix := five1
        cases q with
        | true =>
          go_wp2_with (go_at_call 38; refine HCON.out.mono ?_; rintro e w9 ⟨rfl, hb9⟩; have HB9 := Lib.hid hb9; clear hb9)
          refine ⟨⟨2, rfl, by omega, Lib.hid ⟨fun _ => HOK.out.1 (by omega), fun _ => HQ.out, fun h => absurd h (by omega), fun h => absurd h (by omega), fun h => absurd h (by omega)⟩, Lib.hid (thn HB.out HB9.out)⟩, by simp [intOf]⟩
        | false =>
          go_wp2_with (go_at_call 38; refine HCON.out.mono ?_; rintro e w9 ⟨rfl, hb9⟩; have HB9 := Lib.hid hb9; clear hb9)
          go_ret
          have hr2 := TWO.out (fun h => by have h3 := HQ.out; rw [h.2.1 (by omega)] at h3; cases h3)
          rw [hr2]
          exact ⟨rfl, thn HB0.out (thn HB.out HB9.out)⟩
      · have hcon := light_any (kn : Int) g ls (by have := HOK.out.1 (by omega); omega) (filled_tot hk3 (HOK.out.2.1 (by omega)) (HOK.out.1 (by omega))) wr A c HRD.out
        obtain ⟨q, hq⟩ : ∃ q, decide (tot ls ≤ 4503599627370496) = q := ⟨_, rfl⟩
        rw [hq, HN.out] at hcon
        have HQ := Lib.hid hq
        have HCON := Lib.hid hcon
        clear hq hcon
        rw [show ((2 : Nat) : Int) = 2 from rfl]
        have hix := five2
        cases q with
        | true =>
          go_wp2_with (go_at_call 39; refine HCON.out.mono ?_; rintro e w9 ⟨rfl, hb9⟩; have HB9 := Lib.hid hb9; clear hb9)
          refine ⟨⟨3, rfl, by omega, Lib.hid ⟨fun _ => HOK.out.1 (by omega), fun _ => HOK.out.2.1 (by omega), fun _ => (of_decide_eq_true HQ.out), fun h => absurd h (by omega), fun h => absurd h (by omega)⟩, Lib.hid (thn HB.out HB9.out)⟩, by simp [intOf]⟩
        | false =>
          go_wp2_with (go_at_call 39; refine HCON.out.mono ?_; rintro e w9 ⟨rfl, hb9⟩; have HB9 := Lib.hid hb9; clear hb9)
          go_ret
          have hr2 := TWO.out (fun h => by have h3 := HQ.out; exact of_decide_eq_false HQ.out (h.2.2.1 (by omega)))
          rw [hr2]
          exact ⟨rfl, thn HB0.out (thn HB.out HB9.out)⟩
      · have hcon := sharp_any (kn : Int) g ls HHL.out (HLV.out 0) wr A c HRD.out
        obtain ⟨q, hq⟩ : ∃ q, flatB ls = q := ⟨_, rfl⟩
        rw [hq, HN.out] at hcon
        have HQ := Lib.hid hq
        have HCON := Lib.hid hcon
        clear hq hcon
        rw [show ((3 : Nat) : Int) = 3 from rfl]
        have hix := five3
        cases q with
        | true =>
          go_wp2_with (go_at_call 40; refine HCON.out.mono ?_; rintro e w9 ⟨rfl, hb9⟩; have HB9 := Lib.hid hb9; clear hb9)
          refine ⟨⟨4, rfl, by omega, Lib.hid ⟨fun _ => HOK.out.1 (by omega), fun _ => HOK.out.2.1 (by omega), fun _ => HOK.out.2.2.1 (by omega), fun _ => HQ.out, fun h => absurd h (by omega)⟩, Lib.hid (thn HB.out HB9.out)⟩, by simp [intOf]⟩
        | false =>
          go_wp2_with (go_at_call 40; refine HCON.out.mono ?_; rintro e w9 ⟨rfl, hb9⟩; have HB9 := Lib.hid hb9; clear hb9)
          go_ret
          have hr2 := TWO.out (fun h => by have h3 := HQ.out; rw [h.2.2.2.1 (by omega)] at h3; cases h3)
          rw [hr2]
          exact ⟨rfl, thn HB0.out (thn HB.out HB9.out)⟩
      · have hcon := inTurn_any (kn : Int) g ls HHL.out HLV.out wr A c HRD.out
        obtain ⟨q, hq⟩ : ∃ q, inTurn 0 (allOf ls) = q := ⟨_, rfl⟩
        rw [hq, HN.out] at hcon
        have HQ := Lib.hid hq
        have HCON := Lib.hid hcon
        clear hq hcon
        rw [show ((4 : Nat) : Int) = 4 from rfl]
        have hix := five4
        cases q with
        | true =>
          go_wp2_with (go_at_call 41; refine HCON.out.mono ?_; rintro e w9 ⟨rfl, hb9⟩; have HB9 := Lib.hid hb9; clear hb9)
          refine ⟨⟨5, rfl, by omega, Lib.hid ⟨fun _ => HOK.out.1 (by omega), fun _ => HOK.out.2.1 (by omega), fun _ => HOK.out.2.2.1 (by omega), fun _ => HOK.out.2.2.2.1 (by omega), fun _ => HQ.out⟩, Lib.hid (thn HB.out HB9.out)⟩, by simp [intOf]⟩
        | false =>
          go_wp2_with (go_at_call 41; refine HCON.out.mono ?_; rintro e w9 ⟨rfl, hb9⟩; have HB9 := Lib.hid hb9; clear hb9)
          go_ret
          have hr2 := TWO.out (fun h => by have h3 := HQ.out; rw [h.2.2.2.2 (by omega)] at h3; cases h3)
          rw [hr2]
          exact ⟨rfl, thn HB0.out (thn HB.out HB9.out)⟩
      · rw [show ((5 : Nat) : Int) = 5 from rfl]
        clear x0 x1 x2
        go_wp2
        go_ret
        rw [ZERO.out HOK.out]
        exact ⟨rfl, thn HB0.out HB.out⟩

end Go.Proofs.Ytoplbjanemjebaa
