/- The contracts of check.form and check.Hist. · Four histograms merged, in whatever turn: the mathematics, and Merge's contract. · The contracts of bits.Len64, check.Bound, and the document's digits and Bound. -/
import Derived.Test.YtpdhkpgnajfobaaJ23
import Derived.Test.YtpdhkpgnajfobaaJ22
import Derived.Lib.Strings
import Derived.Lib.Small
import Derived.Lib.Slices
import Derived.Lib.Walk
import Derived.Lib.BitFns
section
/- The contracts of check.form and check.Hist. -/
namespace Go.Proofs.Lh
theorem tot_cap (M : Nat) : ∀ ls : Lv, (∀ l ∈ ls, l.length ≤ M) → tot ls + M ≤ M * 2 ^ ls.length
  | [], _ => by simp [tot]
  | l :: ls, h => by
    have ih := tot_cap M ls fun x hx => h x (List.mem_cons_of_mem _ hx)
    have h1 := h l List.mem_cons_self
    rw [tot, List.length_cons, Nat.pow_succ, ← Nat.mul_assoc]
    omega
end Go.Proofs.Lh
namespace Go.Proofs.Ytpdhkpgnajfobaa
open Go.RowKit Go.Shelf Go.Proofs.Rw Go.Proofs.Lh Go.Proofs.Rn

theorem filled_len {k : Nat} {ls : Lv} (h : filledB k ls = true) (i : Nat) (hi : i < ls.length) : (lev ls i).length ≤ rm k i := by
  have := List.all_eq_true.1 h i (List.mem_range.2 hi)
  unfold levOk at this
  rw [decide_eq_true_iff] at this
  exact this.2.1
theorem filled_tot {k : Nat} (hk : k ≤ 1024) {ls : Lv} (h : filledB k ls = true) (hl : ls.length ≤ 52) : tot ls ≤ 4611686018427387904 := by
  cases ls with
  | nil => simp [tot]
  | cons l ls =>
    have h0 := filled_len h 0 (by simp)
    have h1 : (lev (l :: ls) 0).length = l.length := rfl
    have hc := tot_cap 513 ls fun x hx => by
      obtain ⟨i, hi, e⟩ := List.getElem_of_mem hx
      have h2 := filled_len h (i + 1) (by simp; omega)
      rw [lev_lt (by simp; omega), List.getElem_cons_succ, e] at h2
      unfold rm at h2
      rw [if_neg (by omega)] at h2
      omega
    have hp : 2 ^ ls.length ≤ 2 ^ 51 := Nat.pow_le_pow_right (by omega) (by simp at hl; omega)
    unfold rm at h0
    rw [if_pos rfl] at h0
    rw [tot]
    omega

/-- What holds of a histogram, of the first j of five. -/
def okTo (k : Nat) (ls : Lv) (j : Nat) : Prop := (1 ≤ j → ls.length ≤ 52) ∧ (2 ≤ j → filledB k ls = true) ∧ (3 ≤ j → tot ls ≤ 4503599627370496) ∧ (4 ≤ j → flatB ls = true) ∧ (5 ≤ j → inTurn 0 (allOf ls) = true)
theorem good_iff (k : Nat) (ls : Lv) : goodB k ls = true ↔ okTo k ls 5 := by
  unfold goodB shapedB okTo
  rw [Bool.and_eq_true, Bool.and_eq_true, Bool.and_eq_true, Bool.and_eq_true, decide_eq_true_iff, decide_eq_true_iff]
  show ((filledB k ls = true ∧ _) ∧ _) ∧ _ ↔ _
  constructor
  · rintro ⟨⟨⟨a, b⟩, c, d⟩, e⟩
    exact ⟨fun _ => b, fun _ => a, fun _ => e, fun _ => d, fun _ => c⟩
  · rintro ⟨a, b, c, d, e⟩
    exact ⟨⟨⟨b (by omega), a (by omega)⟩, e (by omega), d (by omega)⟩, c (by omega)⟩
theorem chk_two {k : Nat} (hk : 2 ≤ k) (hk1 : k ≤ 1024) {g : Int} (hg : 0 ≤ g ∧ g ≤ 4) {ls : Lv} (h : ¬ okTo k ls 5) : chk (k : Int) g ls = 2 := by
  unfold chk
  rw [if_pos ⟨⟨by omega, by omega⟩, hg⟩, Int.toNat_natCast, if_neg (fun e => h ((good_iff k ls).1 e))]
theorem chk_zero {k : Nat} (hk : 2 ≤ k) (hk1 : k ≤ 1024) {g : Int} (hg : 0 ≤ g ∧ g ≤ 4) {ls : Lv} (h : okTo k ls 5) : chk (k : Int) g ls = 0 := by
  unfold chk
  rw [if_pos ⟨⟨by omega, by omega⟩, hg⟩, Int.toNat_natCast, if_pos ((good_iff k ls).2 h)]
theorem chk_nine {k g : Int} (ls : Lv) (h : okKG k g = false) : chk k g ls = 9 := by
  unfold okKG at h
  rw [decide_eq_false_iff_not] at h
  unfold chk
  rw [if_neg h]

/-- The array of functions. -/
abbrev fiveV : Value := .agg #[.func (.func 65) #[] #[], .func (.func 66) #[] #[], .func (.func 67) #[] #[], .func (.func 68) #[] #[], .func (.func 69) #[] #[]]
theorem store_func (P : Program) (w : World) (a : Addr) (m : Mode) (fn : Fn) (bs lb : Array Value) : (store a (.func fn bs lb) m).run P w = stored P w a (.func fn bs lb) m := run_store P w a _ m rfl
attribute [local go_sem] store_func
theorem form_any (w : World) : Calls Try.prog 37 #[] w fun e w' => e = .returned fiveV ∧ Below w.heap.size w w' := by
  go_enter Try.func37, Try.ntmps37
  go_wp2
  refine bodyPost_ret (v := fiveV) (by simp [results, Try.results37, go_sem]) rfl ⟨rfl, (Below.refl _ w).alloc (Nat.le_refl _) _⟩

theorem five0 (w : World) : (Instr.index 86 fiveV (.int .i64 0)).run Try.prog w = .ok (.func (.func 65) #[] #[]) w := by kernel_rfl
theorem five1 (w : World) : (Instr.index 86 fiveV (.int .i64 1)).run Try.prog w = .ok (.func (.func 66) #[] #[]) w := by kernel_rfl
theorem five2 (w : World) : (Instr.index 86 fiveV (.int .i64 2)).run Try.prog w = .ok (.func (.func 67) #[] #[]) w := by kernel_rfl
theorem five3 (w : World) : (Instr.index 86 fiveV (.int .i64 3)).run Try.prog w = .ok (.func (.func 68) #[] #[]) w := by kernel_rfl
theorem five4 (w : World) : (Instr.index 86 fiveV (.int .i64 4)).run Try.prog w = .ok (.func (.func 69) #[] #[]) w := by kernel_rfl

set_option maxRecDepth 100000 in
set_option maxHeartbeats 4000000 in
theorem hist_any (k g : Int) (ls : Lv) (hl : ls.length ≤ 1000000) (hlv : ∀ i, (lev ls i).length ≤ 1000000) (w : World) (A : Option Addr) (c : Nat) (h : Reads w w.heap.size (.slice A ls.length c) ls) :
    Calls Try.prog 17 #[hv k g (.slice A ls.length c)] w fun e w' => e = .returned (.int .i64 (chk k g ls : Int)) ∧ Below w.heap.size w w' := by
  have hm := fun W => ckMay_any k g W
  obtain ⟨N, hN⟩ : ∃ N, ls.length = N := ⟨_, rfl⟩
  have HL := Lib.hid h
  have HLV := Lib.hid hlv
  have HHL := Lib.hid hl
  rw [hN] at HL ⊢
  have HN := Lib.hid hN
  clear h hN hlv hl
  obtain ⟨W0, hW0⟩ : ∃ W, w.alloc (.cells #[.int .i64 k, .int .i64 g, .slice A N c] 32) = W := ⟨_, rfl⟩
  have hB0 : Below w.heap.size w W0 := by rw [← hW0]; exact (Below.refl _ w).alloc (Nat.le_refl _) _
  have hp0 : W0.heap[w.heap.size]? = some (.cells #[.int .i64 k, .int .i64 g, .slice A N c] 32) := by rw [← hW0]; exact heap_alloc_new w _
  have HW0 := Lib.hid hW0
  have HB0 := Lib.hid hB0
  have HP0 := Lib.hid hp0
  have lw0 := lt_of hp0
  clear hW0 hB0 hp0
  cases hq : okKG k g with
  | false =>
    rw [chk_nine ls hq]
    simp only [hq] at hm
    have HM := Lib.hid hm
    clear hm hq
    go_enter Try.func17, Try.ntmps17
    go_upto_region 1 with (fail)
    rw [HW0.out]
    obtain ⟨x0, x1, x2⟩ := box3 HP0.out
    go_wp2_with (go_at_call 36; (with_reducible refine (HM.out _).mono ?_); rintro e wn ⟨rfl, rfl⟩)
    go_ret
    exact ⟨rfl, HB0.out⟩
  | true =>
    simp only [hq] at hm
    obtain ⟨⟨k0, k1⟩, hg⟩ := of_decide_eq_true hq
    obtain ⟨kn, rfl⟩ : ∃ kn : Nat, k = (kn : Int) := ⟨k.toNat, by omega⟩
    have hk2 : 2 ≤ kn := by omega
    have hk3 : kn ≤ 1024 := by omega
    have two := fun h => chk_two hk2 hk3 hg (ls := ls) h
    have zero := fun h => chk_zero hk2 hk3 hg (ls := ls) h
    obtain ⟨r, hr⟩ : ∃ r, chk (kn : Int) g ls = r := ⟨_, rfl⟩
    rw [hr] at two zero ⊢
    have HM := Lib.hid hm
    have TWO := Lib.hid two
    have ZERO := Lib.hid zero
    clear hm hq two zero hr hg
    go_enter Try.func17, Try.ntmps17
    go_upto_region 1 with (fail)
    rw [HW0.out]
    obtain ⟨x0, x1, x2⟩ := box3 HP0.out
    go_upto_region 4 with (first
      | (go_at_call 36; (with_reducible refine (HM.out _).mono ?_); rintro e wn ⟨rfl, rfl⟩)
      | (go_at_call 37; refine (form_any _).mono ?_; rintro e w1 ⟨rfl, hb1⟩; have HB1 := Lib.hid hb1; clear hb1))
    clear x0 x1 x2
    go_loopw [12] (fun p wr => ∃ j : Nat, p = .int .i64 (j : Int) ∧ j ≤ 5 ∧ Hid (okTo kn ls j) ∧ Hid (Below W0.heap.size W0 wr)) (fun p _ => 5 - (intOf p).toNat)
    case atStart => exact ⟨0, rfl, by omega, Lib.hid ⟨fun h => absurd h (by omega), fun h => absurd h (by omega), fun h => absurd h (by omega), fun h => absurd h (by omega), fun h => absurd h (by omega)⟩, HB1⟩
    case round =>
      obtain ⟨j, rfl, hj, HOK, HB⟩ := hrel
      have hh := (HB.out.block w.heap.size lw0).trans HP0.out
      obtain ⟨x0, x1, x2⟩ := box3 hh
      have lh := lt_of hh
      have hrd : Reads wr wr.heap.size (.slice A ls.length c) ls := by
        rw [HN.out]
        exact HL.out.grow (thn HB0.out HB.out)
      have HRD := Lib.hid hrd
      clear hh hrd
      rcases (show j = 0 ∨ j = 1 ∨ j = 2 ∨ j = 3 ∨ j = 4 ∨ j = 5 by omega) with rfl | rfl | rfl | rfl | rfl | rfl
      · have hcon := few_any (kn : Int) g N A c wr
        obtain ⟨q, hq⟩ : ∃ q, decide (N ≤ 52) = q := ⟨_, rfl⟩
        rw [hq] at hcon
        have HQ := Lib.hid hq
        have HCON := Lib.hid hcon
        clear hq hcon
        rw [show ((0 : Nat) : Int) = 0 from rfl]
        have hix := five0
        cases q with
        | true =>
          go_wp2_with (go_at_call 65; refine HCON.out.mono ?_; rintro e w9 ⟨rfl, hb9⟩; have HB9 := Lib.hid hb9; clear hb9)
          refine ⟨⟨1, rfl, by omega, Lib.hid ⟨fun _ => (by have := of_decide_eq_true HQ.out; rw [HN.out]; exact this), fun h => absurd h (by omega), fun h => absurd h (by omega), fun h => absurd h (by omega), fun h => absurd h (by omega)⟩, Lib.hid (thn HB.out HB9.out)⟩, by simp [intOf]⟩
        | false =>
          go_wp2_with (go_at_call 65; refine HCON.out.mono ?_; rintro e w9 ⟨rfl, hb9⟩; have HB9 := Lib.hid hb9; clear hb9)
          go_ret
          have hr2 := TWO.out (fun h => by have h3 := HQ.out; have h2 := of_decide_eq_false HQ.out; rw [← HN.out] at h2; exact h2 (h.1 (by omega)))
          rw [hr2]
          exact ⟨rfl, thn HB0.out (thn HB.out HB9.out)⟩
      · have hcon := filled_any kn hk2 hk3 g ls HHL.out wr A c HRD.out
        obtain ⟨q, hq⟩ : ∃ q, filledB kn ls = q := ⟨_, rfl⟩
        rw [hq, HN.out] at hcon
        have HQ := Lib.hid hq
        have HCON := Lib.hid hcon
        clear hq hcon
        rw [show ((1 : Nat) : Int) = 1 from rfl]
        have hix := five1
        cases q with
        | true =>
          go_wp2_with (go_at_call 66; refine HCON.out.mono ?_; rintro e w9 ⟨rfl, hb9⟩; have HB9 := Lib.hid hb9; clear hb9)
          refine ⟨⟨2, rfl, by omega, Lib.hid ⟨fun _ => HOK.out.1 (by omega), fun _ => HQ.out, fun h => absurd h (by omega), fun h => absurd h (by omega), fun h => absurd h (by omega)⟩, Lib.hid (thn HB.out HB9.out)⟩, by simp [intOf]⟩
        | false =>
          go_wp2_with (go_at_call 66; refine HCON.out.mono ?_; rintro e w9 ⟨rfl, hb9⟩; have HB9 := Lib.hid hb9; clear hb9)
          go_ret
          have hr2 := TWO.out (fun h => by have h3 := HQ.out; rw [h.2.1 (by omega)] at h3; cases h3)
          rw [hr2]
          exact ⟨rfl, thn HB0.out (thn HB.out HB9.out)⟩
      · have hcon := light_any (kn : Int) g ls (by have := HOK.out.1 (by omega); omega) (filled_tot hk3 (HOK.out.2.1 (by omega)) (HOK.out.1 (by omega))) wr A c HRD.out
        obtain ⟨q, hq⟩ : ∃ q, decide (tot ls ≤ 4503599627370496) = q := ⟨_, rfl⟩
        rw [hq, HN.out] at hcon
        have HQ := Lib.hid hq
        have HCON := Lib.hid hcon
        clear hq hcon
        rw [show ((2 : Nat) : Int) = 2 from rfl]
        have hix := five2
        cases q with
        | true =>
          go_wp2_with (go_at_call 67; refine HCON.out.mono ?_; rintro e w9 ⟨rfl, hb9⟩; have HB9 := Lib.hid hb9; clear hb9)
          refine ⟨⟨3, rfl, by omega, Lib.hid ⟨fun _ => HOK.out.1 (by omega), fun _ => HOK.out.2.1 (by omega), fun _ => (of_decide_eq_true HQ.out), fun h => absurd h (by omega), fun h => absurd h (by omega)⟩, Lib.hid (thn HB.out HB9.out)⟩, by simp [intOf]⟩
        | false =>
          go_wp2_with (go_at_call 67; refine HCON.out.mono ?_; rintro e w9 ⟨rfl, hb9⟩; have HB9 := Lib.hid hb9; clear hb9)
          go_ret
          have hr2 := TWO.out (fun h => by have h3 := HQ.out; exact of_decide_eq_false HQ.out (h.2.2.1 (by omega)))
          rw [hr2]
          exact ⟨rfl, thn HB0.out (thn HB.out HB9.out)⟩
      · have hcon := sharp_any (kn : Int) g ls HHL.out (HLV.out 0) wr A c HRD.out
        obtain ⟨q, hq⟩ : ∃ q, flatB ls = q := ⟨_, rfl⟩
        rw [hq, HN.out] at hcon
        have HQ := Lib.hid hq
        have HCON := Lib.hid hcon
        clear hq hcon
        rw [show ((3 : Nat) : Int) = 3 from rfl]
        have hix := five3
        cases q with
        | true =>
          go_wp2_with (go_at_call 68; refine HCON.out.mono ?_; rintro e w9 ⟨rfl, hb9⟩; have HB9 := Lib.hid hb9; clear hb9)
          refine ⟨⟨4, rfl, by omega, Lib.hid ⟨fun _ => HOK.out.1 (by omega), fun _ => HOK.out.2.1 (by omega), fun _ => HOK.out.2.2.1 (by omega), fun _ => HQ.out, fun h => absurd h (by omega)⟩, Lib.hid (thn HB.out HB9.out)⟩, by simp [intOf]⟩
        | false =>
          go_wp2_with (go_at_call 68; refine HCON.out.mono ?_; rintro e w9 ⟨rfl, hb9⟩; have HB9 := Lib.hid hb9; clear hb9)
          go_ret
          have hr2 := TWO.out (fun h => by have h3 := HQ.out; rw [h.2.2.2.1 (by omega)] at h3; cases h3)
          rw [hr2]
          exact ⟨rfl, thn HB0.out (thn HB.out HB9.out)⟩
      · have hcon := inTurn_any (kn : Int) g ls HHL.out HLV.out wr A c HRD.out
        obtain ⟨q, hq⟩ : ∃ q, inTurn 0 (allOf ls) = q := ⟨_, rfl⟩
        rw [hq, HN.out] at hcon
        have HQ := Lib.hid hq
        have HCON := Lib.hid hcon
        clear hq hcon
        rw [show ((4 : Nat) : Int) = 4 from rfl]
        have hix := five4
        cases q with
        | true =>
          go_wp2_with (go_at_call 69; refine HCON.out.mono ?_; rintro e w9 ⟨rfl, hb9⟩; have HB9 := Lib.hid hb9; clear hb9)
          refine ⟨⟨5, rfl, by omega, Lib.hid ⟨fun _ => HOK.out.1 (by omega), fun _ => HOK.out.2.1 (by omega), fun _ => HOK.out.2.2.1 (by omega), fun _ => HOK.out.2.2.2.1 (by omega), fun _ => HQ.out⟩, Lib.hid (thn HB.out HB9.out)⟩, by simp [intOf]⟩
        | false =>
          go_wp2_with (go_at_call 69; refine HCON.out.mono ?_; rintro e w9 ⟨rfl, hb9⟩; have HB9 := Lib.hid hb9; clear hb9)
          go_ret
          have hr2 := TWO.out (fun h => by have h3 := HQ.out; rw [h.2.2.2.2 (by omega)] at h3; cases h3)
          rw [hr2]
          exact ⟨rfl, thn HB0.out (thn HB.out HB9.out)⟩
      · rw [show ((5 : Nat) : Int) = 5 from rfl]
        clear x0 x1 x2
        go_wp2
        go_ret
        rw [ZERO.out HOK.out]
        exact ⟨rfl, thn HB0.out HB.out⟩

end Go.Proofs.Ytpdhkpgnajfobaa
end
section
/- Four histograms merged, in whatever turn: the mathematics, and Merge's contract. -/
namespace Go.Proofs.Lh
open Go.Proofs.Lm (Sp)
theorem Made.chkg {k : Nat} {ls : Lv} (h : Made k ls) (hm : ∀ x ∈ allOf ls, x.2 ≤ 9223372036854775807) {g : Int} (g0 : 0 ≤ g) (g4 : g ≤ 4) : Lh.chk (k : Int) g ls = 0 := by
  have h1 := h.k2
  have h2 := h.k1
  unfold Lh.chk
  rw [if_pos ⟨⟨by omega, by omega⟩, by omega, by omega⟩, Int.toNat_natCast, h.good hm, if_pos rfl]
theorem totM_perm {a b : List Hm} (h : a.Perm b) : totM a = totM b := by
  unfold totM
  exact (h.map _).sum_nat
/-- In whatever turn they are handed in, it is the same. -/
theorem out_perm {k : Nat} {a b : List Hm} (hp : a.Perm b) (h0 : 0 < a.length) (hk : ∀ m ∈ a, m.1 = (k : Int) ∧ m.2.1 = 0) (ht : totM a ≤ 4503599627370496) : outM [] a = outM [] b ∧ badN [] a = 0 ∧ badN [] b = 0 := by
  have hkb : ∀ m ∈ b, m.1 = (k : Int) ∧ m.2.1 = 0 := fun m hm => hk m (hp.mem_iff.2 hm)
  have hg : ∀ l : List Hm, (∀ m ∈ l, m.1 = (k : Int) ∧ m.2.1 = 0) → gmax l = 0 := fun l h => Int.le_antisymm (gmax_le (Int.le_refl 0) fun m hm => by rw [(h m hm).2]; exact Int.le_refl 0) (gmax_nonneg l)
  have hb0 : 0 < b.length := by rw [← hp.length_eq]; exact h0
  have ha := bad_none h0 (fun m hm => (hk m hm).1) (by rw [hg a hk]; decide) ht
  have hb := bad_none hb0 (fun m hm => (hkb m hm).1) (by rw [hg b hkb]; decide) (by rw [← totM_perm hp]; exact ht)
  have hone : ∀ l : List Hm, 0 < l.length → (∀ m ∈ l, m.1 = (k : Int) ∧ m.2.1 = 0) → kOne l = (k : Int) := by
    intro l hl h
    cases l with
    | nil => simp at hl
    | cons x xs => exact (h x List.mem_cons_self).1
  refine ⟨?_, ha, hb⟩
  unfold outM
  rw [if_pos ha, if_pos hb, hg a hk, hg b hkb, hone a h0 hk, hone b hb0 hkb]
  have hl : (lumpAll [] a).Perm (lumpAll [] b) := by
    unfold lumpAll
    exact (hp.flatMap_right _).append_right _
  rw [mergeL_perm _ hl]
theorem rot_perm {α : Type} (H : Nat → α) {n a b c : Nat} (hn : n < 4) (ha : (n + 1) % 4 = a) (hb : (n + 2) % 4 = b) (hc : (n + 3) % 4 = c) : [H n, H a, H b, H c].Perm [H 0, H 1, H 2, H 3] := by
  subst ha hb hc
  rcases (by omega : n = 0 ∨ n = 1 ∨ n = 2 ∨ n = 3) with rfl | rfl | rfl | rfl
  · exact List.Perm.refl _
  · exact List.perm_append_comm (l₁ := [H 1, H 2, H 3]) (l₂ := [H 0])
  · exact List.perm_append_comm (l₁ := [H 2, H 3]) (l₂ := [H 0, H 1])
  · exact List.perm_append_comm (l₁ := [H 3]) (l₂ := [H 0, H 1, H 2])
theorem rev_perm {α : Type} (H : Nat → α) : [H 3, H 2, H 1, H 0].Perm [H 0, H 1, H 2, H 3] := List.reverse_perm [H 0, H 1, H 2, H 3]
def sum4 (f : Nat → Nat) : Nat → Nat
  | 0 => 0
  | j + 1 => sum4 f j + f j
theorem sum4_le {f : Nat → Nat} {B : Nat} (hf : ∀ i, i < 4 → f i ≤ B) : ∀ j, j ≤ 4 → sum4 f j ≤ j * B
  | 0, _ => by simp [sum4]
  | j + 1, hj => by
    have h1 := sum4_le hf j (by omega)
    have h2 := hf j (by omega)
    rw [sum4, Nat.add_mul]
    omega
/-- What four, merged, are. -/
theorem quad_st {k : Nat} {L : Nat → Lv} {N : Nat → (Nat → Bool) → Nat} (hL : ∀ i, i < 4 → St k (hM k L i) (N i) (tot (L i))) (hT : ∀ i, i < 4 → tot (L i) ≤ 35184372088832) :
    ∃ o3 : Lv, outM [] [hM k L 0, hM k L 1, hM k L 2, hM k L 3] = ((k : Int), 1, o3) ∧ Good ((k : Int), 1, o3) ∧ tot o3 = sum4 (fun i => tot (L i)) 4 ∧ totM [hM k L 0, hM k L 1, hM k L 2, hM k L 3] ≤ 4503599627370496 := by
  have t0 := hT 0 (by omega)
  have t1 := hT 1 (by omega)
  have t2 := hT 2 (by omega)
  have t3 := hT 3 (by omega)
  have hs : totM [hM k L 0, hM k L 1, hM k L 2, hM k L 3] = sum4 (fun i => tot (L i)) 4 := by
    unfold totM
    simp [sum4, hM]
    omega
  have hs2 : sum4 (fun i => tot (L i)) 4 ≤ 4 * 35184372088832 := sum4_le hT 4 (by omega)
  have hg : gmax [hM k L 0, hM k L 1, hM k L 2, hM k L 3] = ((0 : Nat) : Int) := by
    refine Int.le_antisymm (gmax_le (Int.le_refl 0) fun m hm => ?_) (gmax_nonneg _)
    simp only [List.mem_cons, List.not_mem_nil, or_false] at hm
    rcases hm with rfl | rfl | rfl | rfl <;> exact Int.le_refl 0
  obtain ⟨-, h2, h3⟩ := St.merge (k := k) (g := 0) (ms := [hM k L 0, hM k L 1, hM k L 2, hM k L 3]) (Ns := [N 0, N 1, N 2, N 3]) (by simp) rfl (by
    intro i hi
    match i, hi with
    | 0, _ => exact hL 0 (by omega)
    | 1, _ => exact hL 1 (by omega)
    | 2, _ => exact hL 2 (by omega)
    | 3, _ => exact hL 3 (by omega)) hg (by omega) (by omega)
  have e1 := h3.kk
  have e2 := h3.good
  have e3 := h3.total
  obtain ⟨o, ho⟩ : ∃ o, outM [] [hM k L 0, hM k L 1, hM k L 2, hM k L 3] = o := ⟨_, rfl⟩
  rw [ho] at h2 e1 e2 e3 ⊢
  obtain ⟨o1, o2, o3⟩ := o
  have f1 : o1 = (k : Int) := e1
  have f2 : o2 = 1 := h2
  subst f1
  subst f2
  exact ⟨o3, rfl, e2, e3.trans hs, by omega⟩
end Go.Proofs.Lh
namespace Go.Proofs.Ytpdhkpgnajfobaa
open Go.RowKit Go.Shelf Go.Proofs.Rw Go.Proofs.Lh Go.Proofs.Rf
/-- Merge, of histograms that are told. -/
theorem merge_hs {k g : Int} {o3 : Lv} (xs : List Hx) (hl : xs.length ≤ 16) (hg : ∀ x ∈ xs, Lh.Good x.m) (ho : outM [] (xs.map Hx.m) = (k, g, o3)) (hb : badN [] (xs.map Hx.m) = 0) (W : World) (A : Option Addr) (c : Nat) (h : Hs W W.heap.size (.slice A xs.length c) xs) :
    Calls Try.prog 15 #[.slice A xs.length c] W fun e w' => ∃ (A1 : Option Addr) (c1 : Nat), e = .returned (.tuple #[.agg #[.int .i64 k, .int .i64 g, .slice A1 o3.length c1], .int .i64 0]) ∧ Levs w' w'.heap.size (.slice A1 o3.length c1) o3 ∧ Below W.heap.size W w' := by
  have := merge_any xs ⟨hl, by simp, (by intro e he; cases he), hg⟩ W A c h
  unfold WithP at this
  rw [ho, hb] at this
  exact this
theorem quad_any {k g : Int} {o3 : Lv} (a b c d : Hx) (hg : ∀ x ∈ [a, b, c, d], Lh.Good x.m) (ho : outM [] [a.m, b.m, c.m, d.m] = (k, g, o3)) (hb : badN [] [a.m, b.m, c.m, d.m] = 0) (W : World) (hi : ∀ x ∈ [a, b, c, d], x.In W) :
    Calls Try.prog 15 #[.slice (some ⟨W.heap.size, 0, none⟩) 4 4] (W.alloc (.cells #[.int .i64 a.k, .int .i64 a.g, a.sl, .int .i64 b.k, .int .i64 b.g, b.sl, .int .i64 c.k, .int .i64 c.g, c.sl, .int .i64 d.k, .int .i64 d.g, d.sl] 32)) fun e w' => ∃ (A1 : Option Addr) (c1 : Nat), e = .returned (.tuple #[.agg #[.int .i64 k, .int .i64 g, .slice A1 o3.length c1], .int .i64 0]) ∧ Levs w' w'.heap.size (.slice A1 o3.length c1) o3 ∧ Below W.heap.size W w' := by
  have hal := (Below.refl W.heap.size W).alloc (Nat.le_refl _) (.cells #[.int .i64 a.k, .int .i64 a.g, a.sl, .int .i64 b.k, .int .i64 b.g, b.sl, .int .i64 c.k, .int .i64 c.g, c.sl, .int .i64 d.k, .int .i64 d.g, d.sl] 32)
  have hs := hs_block (heap_alloc_new W (.cells #[.int .i64 a.k, .int .i64 a.g, a.sl, .int .i64 b.k, .int .i64 b.g, b.sl, .int .i64 c.k, .int .i64 c.g, c.sl, .int .i64 d.k, .int .i64 d.g, d.sl] 32)) [a, b, c, d] rfl 4 rfl (by omega) (fun x hx => (hi x hx).grow hal)
  refine (merge_hs [a, b, c, d] (by simp) hg ho hb _ _ 4 hs).mono ?_
  rintro e w' ⟨A1, c1, he, hL, hB⟩
  exact ⟨A1, c1, he, hL, thn hal hB⟩
theorem updH_same (H : Nat → Hx) (j : Nat) (x : Hx) : updH H j x j = x := if_pos rfl
end Go.Proofs.Ytpdhkpgnajfobaa
end
section
/- The contracts of bits.Len64, check.Bound, and the document's digits and Bound. -/
namespace Go.Proofs.Ytpdhkpgnajfobaa
open Go.RowKit Go.Shelf Go.Proofs.Rw Go.Proofs.Lh

theorem rdigits_any : ∀ (m n : Nat), n < 2 ^ m → m ≤ 64 → ∀ (w : World), Calls Try.prog 45 #[.int .u64 (n : Int)] w fun e w' => e = .returned (.int .i64 (digs n : Int)) ∧ w = w'
  | m, 0, _, _, w => by
    rw [digs_zero]
    go_enter Try.func45, Try.ntmps45
    go_wp2
    go_ret
    exact ⟨rfl, rfl⟩
  | 0, n + 1, h, _, w => by simp at h
  | m + 1, n + 1, h, hm, w => by
    have h2 : (n + 1) / 2 < 2 ^ m := by rw [Nat.pow_succ] at h; omega
    have ih := fun W => rdigits_any m ((n + 1) / 2) h2 (by omega) W
    have hd := digs_pos (n := n + 1) (by omega)
    have hle := digs_le m ((n + 1) / 2) h2
    have hb : (((n + 1 : Nat) : Int) == 0) = false := by rw [beq_eq_false_iff_ne]; omega
    have hn : n + 1 < 18446744073709551616 := by
      have : 2 ^ (m + 1) ≤ 2 ^ 64 := Nat.pow_le_pow_right (by omega) hm
      omega
    rw [hd]
    generalize hx : n + 1 = x at *
    obtain ⟨q, hq⟩ : ∃ q, x / 2 = q := ⟨_, rfl⟩
    have hq2 : (x : Int) / 2 = (q : Int) := by omega
    rw [hq] at ih hle ⊢
    generalize digs q = d at *
    have IH := Lib.hid ih
    clear ih h h2 hd hq hx
    have hd64 : (d : Int) ≤ 64 := by omega
    go_enter Try.func45, Try.ntmps45
    go_wp2_with (go_at_call 45; (with_reducible refine (IH.out _).mono ?_); rintro e wn ⟨rfl, rfl⟩)
    go_ret
    exact ⟨ret_i (by omega), rfl⟩

theorem digs_shr : ∀ (a n : Nat), 2 ^ a ≤ n → digs n = a + digs (n / 2 ^ a)
  | 0, n, _ => by simp
  | a + 1, n, h => by
    rw [Nat.pow_succ] at h ⊢
    rw [digs_pos (by have := Nat.two_pow_pos a; omega), digs_shr a (n / 2) (by omega), Nat.div_div_eq_div_mul, Nat.mul_comm 2 (2 ^ a)]
    omega

set_option maxRecDepth 100000 in
/-- The table, as the program has it. -/
theorem fold_tab : (⟨((List.append [0, 1, 2, 2, 3, 3, 3, 3, 4, 4, 4, 4, 4, 4, 4, 4, 5, 5, 5, 5, 5, 5, 5, 5, 5, 5, 5, 5, 5, 5, 5, 5, 6, 6, 6, 6, 6, 6, 6, 6, 6, 6, 6, 6, 6, 6, 6, 6, 6, 6, 6, 6, 6, 6, 6, 6, 6, 6, 6, 6, 6, 6, 6, 6] [7, 7, 7, 7, 7, 7, 7, 7, 7, 7, 7, 7, 7, 7, 7, 7, 7, 7, 7, 7, 7, 7, 7, 7, 7, 7, 7, 7, 7, 7, 7, 7, 7, 7, 7, 7, 7, 7, 7, 7, 7, 7, 7, 7, 7, 7, 7, 7, 7, 7, 7, 7, 7, 7, 7, 7, 7, 7, 7, 7, 7, 7, 7, 7]).append (List.append [8, 8, 8, 8, 8, 8, 8, 8, 8, 8, 8, 8, 8, 8, 8, 8, 8, 8, 8, 8, 8, 8, 8, 8, 8, 8, 8, 8, 8, 8, 8, 8, 8, 8, 8, 8, 8, 8, 8, 8, 8, 8, 8, 8, 8, 8, 8, 8, 8, 8, 8, 8, 8, 8, 8, 8, 8, 8, 8, 8, 8, 8, 8, 8] [8, 8, 8, 8, 8, 8, 8, 8, 8, 8, 8, 8, 8, 8, 8, 8, 8, 8, 8, 8, 8, 8, 8, 8, 8, 8, 8, 8, 8, 8, 8, 8, 8, 8, 8, 8, 8, 8, 8, 8, 8, 8, 8, 8, 8, 8, 8, 8, 8, 8, 8, 8, 8, 8, 8, 8, 8, 8, 8, 8, 8, 8, 8, 8])).toArray⟩ : ByteArray) = Lib.len8tab := by decide +kernel

theorem bitLen_digs : ∀ (f n : Nat), n < 2 ^ f → Lib.bitLenAux f n = digs n
  | 0, n, h => by
    rw [show n = 0 by simp at h; omega, digs_zero]
    rfl
  | f + 1, n, h => by
    rw [Lib.bitLenAux]
    by_cases h0 : n = 0
    · rw [if_pos h0, h0, digs_zero]
    · rw [if_neg h0, digs_pos h0, bitLen_digs f (n / 2) (by rw [Nat.pow_succ] at h; omega)]
theorem len8_digs (y : Int) (n : Nat) (h : y = (n : Int)) (hn : n < 256) : Lib.len8 y = (digs n : Int) := by
  rw [h, Lib.len8_of _ (by omega) (by omega), Int.toNat_natCast]
  unfold Lib.bitLen
  rw [bitLen_digs 64 n (by omega)]

theorem digs_cut (x : Int) (a : Nat) (p : Nat) (hp : 2 ^ a = p) (y : Int) (hy : x / (p : Int) = y) (h : (p : Int) ≤ x) : digs x.toNat = a + digs y.toNat := by
  obtain ⟨m, rfl⟩ : ∃ m : Nat, x = (m : Int) := ⟨x.toNat, by omega⟩
  rw [Int.toNat_natCast, digs_shr a m (by omega), hp, ← hy, ← Int.natCast_ediv, Int.toNat_natCast]
theorem wrap_fin (K : Int) (k q : Nat) (hk : K = k) (h : k ≤ 56) (hq : q ≤ 8) : wrap64 (K + wrap64 (q : Int)) = ((k + q : Nat) : Int) := by
  unfold wrap64
  omega
theorem wrap_fin0 (q : Nat) (hq : q ≤ 8) : wrap64 (wrap64 (q : Int)) = (q : Int) ∧ wrap64 (q : Int) = (q : Int) := by
  unfold wrap64
  omega
theorem len_fin (u : Int) (h0 : 0 ≤ u) (h1 : u ≤ 255) : Lib.len8 u = (digs u.toNat : Int) ∧ digs u.toNat ≤ 8 := ⟨len8_digs u u.toNat (by omega) (by omega), digs_le 8 _ (by omega)⟩

set_option maxHeartbeats 4000000 in
set_option maxRecDepth 100000 in
theorem len64I (x : Int) (h0 : 0 ≤ x) (h1 : x ≤ 18446744073709551615) (w : World) :
    Calls Try.prog 120 #[.int .u64 x] w fun e w' => e = .returned (.int .i64 (digs x.toNat : Int)) ∧ w = w' := by
  by_cases cy : 4294967296 ≤ x
  · obtain ⟨y, hy⟩ : ∃ y, x / 4294967296 = y := ⟨_, rfl⟩
    have ay : 0 ≤ y := by omega
    have ty : y ≤ 4294967295 := by omega
    have dy := digs_cut x 32 4294967296 (by decide) y hy cy
    by_cases cz : 65536 ≤ y
    · obtain ⟨z, hz⟩ : ∃ z, y / 65536 = z := ⟨_, rfl⟩
      have az : 0 ≤ z := by omega
      have tz : z ≤ 65535 := by omega
      have dz := digs_cut y 16 65536 (by decide) z hz cz
      by_cases cu : 256 ≤ z
      · obtain ⟨u, hu⟩ : ∃ u, z / 256 = u := ⟨_, rfl⟩
        have au : 0 ≤ u := by omega
        have tu : u ≤ 255 := by omega
        have du := digs_cut z 8 256 (by decide) u hu cu
        have i0 : 0 ≤ u := by omega
        have i1 : u ≤ 255 := by omega
        obtain ⟨l1, l2⟩ := len_fin u i0 i1
        have hd : digs x.toNat = 56 + digs u.toNat := by omega
        have HD := Lib.hid hd
        have HL := Lib.hid l1
        have HL2 := Lib.hid l2
        clear hd l1 l2 dy dz du
        rw [HD.out]
        generalize digs u.toNat = q at *
        go_enter Try.func120, Try.ntmps120
        rw [fold_tab]
        go_wp2
        go_ret
        refine ⟨ret_i ?_, rfl⟩
        have a1 := HL.out
        have a2 := HL2.out
        rw [a1]
        first
          | exact wrap_fin _ _ q rfl (by decide) a2
          | exact (wrap_fin0 q a2).1
          | exact (wrap_fin0 q a2).2
      · have tu : z ≤ 255 := by omega
        have i0 : 0 ≤ z := by omega
        have i1 : z ≤ 255 := by omega
        obtain ⟨l1, l2⟩ := len_fin z i0 i1
        have hd : digs x.toNat = 48 + digs z.toNat := by omega
        have HD := Lib.hid hd
        have HL := Lib.hid l1
        have HL2 := Lib.hid l2
        clear hd l1 l2 dy dz
        rw [HD.out]
        generalize digs z.toNat = q at *
        go_enter Try.func120, Try.ntmps120
        rw [fold_tab]
        go_wp2
        go_ret
        refine ⟨ret_i ?_, rfl⟩
        have a1 := HL.out
        have a2 := HL2.out
        rw [a1]
        first
          | exact wrap_fin _ _ q rfl (by decide) a2
          | exact (wrap_fin0 q a2).1
          | exact (wrap_fin0 q a2).2
    · have tz : y ≤ 65535 := by omega
      by_cases cu : 256 ≤ y
      · obtain ⟨u, hu⟩ : ∃ u, y / 256 = u := ⟨_, rfl⟩
        have au : 0 ≤ u := by omega
        have tu : u ≤ 255 := by omega
        have du := digs_cut y 8 256 (by decide) u hu cu
        have i0 : 0 ≤ u := by omega
        have i1 : u ≤ 255 := by omega
        obtain ⟨l1, l2⟩ := len_fin u i0 i1
        have hd : digs x.toNat = 40 + digs u.toNat := by omega
        have HD := Lib.hid hd
        have HL := Lib.hid l1
        have HL2 := Lib.hid l2
        clear hd l1 l2 dy du
        rw [HD.out]
        generalize digs u.toNat = q at *
        go_enter Try.func120, Try.ntmps120
        rw [fold_tab]
        go_wp2
        go_ret
        refine ⟨ret_i ?_, rfl⟩
        have a1 := HL.out
        have a2 := HL2.out
        rw [a1]
        first
          | exact wrap_fin _ _ q rfl (by decide) a2
          | exact (wrap_fin0 q a2).1
          | exact (wrap_fin0 q a2).2
      · have tu : y ≤ 255 := by omega
        have i0 : 0 ≤ y := by omega
        have i1 : y ≤ 255 := by omega
        obtain ⟨l1, l2⟩ := len_fin y i0 i1
        have hd : digs x.toNat = 32 + digs y.toNat := by omega
        have HD := Lib.hid hd
        have HL := Lib.hid l1
        have HL2 := Lib.hid l2
        clear hd l1 l2 dy
        rw [HD.out]
        generalize digs y.toNat = q at *
        go_enter Try.func120, Try.ntmps120
        rw [fold_tab]
        go_wp2
        go_ret
        refine ⟨ret_i ?_, rfl⟩
        have a1 := HL.out
        have a2 := HL2.out
        rw [a1]
        first
          | exact wrap_fin _ _ q rfl (by decide) a2
          | exact (wrap_fin0 q a2).1
          | exact (wrap_fin0 q a2).2
  · have ty : x ≤ 4294967295 := by omega
    by_cases cz : 65536 ≤ x
    · obtain ⟨z, hz⟩ : ∃ z, x / 65536 = z := ⟨_, rfl⟩
      have az : 0 ≤ z := by omega
      have tz : z ≤ 65535 := by omega
      have dz := digs_cut x 16 65536 (by decide) z hz cz
      by_cases cu : 256 ≤ z
      · obtain ⟨u, hu⟩ : ∃ u, z / 256 = u := ⟨_, rfl⟩
        have au : 0 ≤ u := by omega
        have tu : u ≤ 255 := by omega
        have du := digs_cut z 8 256 (by decide) u hu cu
        have i0 : 0 ≤ u := by omega
        have i1 : u ≤ 255 := by omega
        obtain ⟨l1, l2⟩ := len_fin u i0 i1
        have hd : digs x.toNat = 24 + digs u.toNat := by omega
        have HD := Lib.hid hd
        have HL := Lib.hid l1
        have HL2 := Lib.hid l2
        clear hd l1 l2 dz du
        rw [HD.out]
        generalize digs u.toNat = q at *
        go_enter Try.func120, Try.ntmps120
        rw [fold_tab]
        go_wp2
        go_ret
        refine ⟨ret_i ?_, rfl⟩
        have a1 := HL.out
        have a2 := HL2.out
        rw [a1]
        first
          | exact wrap_fin _ _ q rfl (by decide) a2
          | exact (wrap_fin0 q a2).1
          | exact (wrap_fin0 q a2).2
      · have tu : z ≤ 255 := by omega
        have i0 : 0 ≤ z := by omega
        have i1 : z ≤ 255 := by omega
        obtain ⟨l1, l2⟩ := len_fin z i0 i1
        have hd : digs x.toNat = 16 + digs z.toNat := by omega
        have HD := Lib.hid hd
        have HL := Lib.hid l1
        have HL2 := Lib.hid l2
        clear hd l1 l2 dz
        rw [HD.out]
        generalize digs z.toNat = q at *
        go_enter Try.func120, Try.ntmps120
        rw [fold_tab]
        go_wp2
        go_ret
        refine ⟨ret_i ?_, rfl⟩
        have a1 := HL.out
        have a2 := HL2.out
        rw [a1]
        first
          | exact wrap_fin _ _ q rfl (by decide) a2
          | exact (wrap_fin0 q a2).1
          | exact (wrap_fin0 q a2).2
    · have tz : x ≤ 65535 := by omega
      by_cases cu : 256 ≤ x
      · obtain ⟨u, hu⟩ : ∃ u, x / 256 = u := ⟨_, rfl⟩
        have au : 0 ≤ u := by omega
        have tu : u ≤ 255 := by omega
        have du := digs_cut x 8 256 (by decide) u hu cu
        have i0 : 0 ≤ u := by omega
        have i1 : u ≤ 255 := by omega
        obtain ⟨l1, l2⟩ := len_fin u i0 i1
        have hd : digs x.toNat = 8 + digs u.toNat := by omega
        have HD := Lib.hid hd
        have HL := Lib.hid l1
        have HL2 := Lib.hid l2
        clear hd l1 l2 du
        rw [HD.out]
        generalize digs u.toNat = q at *
        go_enter Try.func120, Try.ntmps120
        rw [fold_tab]
        go_wp2
        go_ret
        refine ⟨ret_i ?_, rfl⟩
        have a1 := HL.out
        have a2 := HL2.out
        rw [a1]
        first
          | exact wrap_fin _ _ q rfl (by decide) a2
          | exact (wrap_fin0 q a2).1
          | exact (wrap_fin0 q a2).2
      · have tu : x ≤ 255 := by omega
        have i0 : 0 ≤ x := by omega
        have i1 : x ≤ 255 := by omega
        obtain ⟨l1, l2⟩ := len_fin x i0 i1
        have hd : digs x.toNat = 0 + digs x.toNat := by rw [Nat.zero_add]
        have HD := Lib.hid hd
        have HL := Lib.hid l1
        have HL2 := Lib.hid l2
        clear hd l1 l2 
        rw [HD.out]
        generalize digs x.toNat = q at *
        go_enter Try.func120, Try.ntmps120
        rw [fold_tab]
        go_wp2
        go_ret
        refine ⟨ret_i ?_, rfl⟩
        have a1 := HL.out
        have a2 := HL2.out
        rw [a1]
        first
          | exact wrap_fin _ _ q rfl (by decide) a2
          | exact (wrap_fin0 q a2).1
          | exact (wrap_fin0 q a2).2

theorem len64_any (n : Nat) (hn : n < 18446744073709551616) (w : World) :
    Calls Try.prog 120 #[.int .u64 (n : Int)] w fun e w' => e = .returned (.int .i64 (digs n : Int)) ∧ w = w' := by
  have := len64I (n : Int) (by omega) (by omega) w
  rwa [Int.toNat_natCast] at this

theorem bound_le (k g : Int) (n : Nat) (hn : n < 18446744073709551616) : boundN k g n ≤ 1000000 := by
  unfold boundN
  split
  · have h1 := digs_le 64 n (by omega)
    have : (k.toNat + 1) * (digs n + g.toNat) ≤ 1025 * 68 := Nat.mul_le_mul (by omega) (by omega)
    omega
  · omega

theorem ret_mul {k g : Int} {d n : Nat} (hk : 2 ≤ k ∧ k ≤ 1024) (hg : 0 ≤ g ∧ g ≤ 4) (hn : n ≠ 0) (hd : digs n = d) : (k + 1) * ((d : Int) + g) = (boundN k g n : Int) := by
  unfold boundN
  rw [if_pos ⟨hn, hk, hg⟩, hd]
  rw [Int.natCast_mul, Int.natCast_add, Int.natCast_add]
  rw [show ((k.toNat : Nat) : Int) = k by omega, show ((g.toNat : Nat) : Int) = g by omega]
  rfl
theorem bound_no {k g : Int} {n : Nat} (h : n = 0 ∨ okKG k g = false) : boundN k g n = 0 := by
  unfold boundN
  rw [if_neg]
  rintro ⟨h1, h2⟩
  rcases h with h | h
  · exact h1 h
  · unfold okKG at h
    rw [decide_eq_false_iff_not] at h
    exact h h2

set_option maxHeartbeats 1000000 in
theorem rbound_any (k g : Int) (n : Nat) (hn : n < 18446744073709551616) (w : World) :
    Calls Try.prog 24 #[.int .i64 k, .int .i64 g, .int .u64 (n : Int)] w fun e w' => e = .returned (.int .i64 (boundN k g n : Int)) ∧ w = w' := by
  have hm := fun W => rmay9_any k W
  by_cases h0 : n = 0
  · subst h0
    rw [bound_no (.inl rfl)]
    clear hm
    go_enter Try.func24, Try.ntmps24
    go_wp2
    go_ret
    exact ⟨rfl, rfl⟩
  · have hz : ((n : Int) == 0) = false := by rw [beq_eq_false_iff_ne]; omega
    by_cases hk : 2 ≤ k ∧ k ≤ 1024
    · rw [decide_eq_true hk] at hm
      by_cases g0 : 0 ≤ g
      · by_cases g1 : g ≤ 4
        · have hle := digs_le 64 n (by omega)
          have hl := fun W => rdigits_any 64 n (by omega) (Nat.le_refl _) W
          obtain ⟨d, hd⟩ : ∃ d, digs n = d := ⟨_, rfl⟩
          have hr := ret_mul (n := n) hk ⟨g0, g1⟩ h0 hd
          have hbl := bound_le k g n hn
          rw [hd] at hle
          simp only [hd] at hl
          obtain ⟨r, hrr⟩ : ∃ r, boundN k g n = r := ⟨_, rfl⟩
          rw [hrr] at hbl hr ⊢
          have HM := Lib.hid hm
          have HLN := Lib.hid hl
          clear hm hd hl hrr
          obtain ⟨k0, k1⟩ := hk
          obtain ⟨k', hk'⟩ : ∃ k', k + 1 = k' := ⟨_, rfl⟩
          obtain ⟨g', hg'⟩ : ∃ g', (d : Int) + g = g' := ⟨_, rfl⟩
          rw [hk', hg'] at hr
          have e1 : (r : Int) ≤ 1000000 := by omega
          have e2 : g' ≤ 1000 := by omega
          have e3 : 0 ≤ g' := by omega
          go_enter Try.func24, Try.ntmps24
          go_wp2_with (first
            | (go_at_call 44; (with_reducible refine (HM.out _).mono ?_); rintro e wn ⟨rfl, rfl⟩)
            | (go_at_call 45; (with_reducible refine (HLN.out _).mono ?_); rintro e wn ⟨rfl, rfl⟩))
          go_ret
          exact ⟨rfl, rfl⟩
        · rw [bound_no (.inr (by unfold okKG; rw [decide_eq_false_iff_not]; omega))]
          have HM := Lib.hid hm
          clear hm
          go_enter Try.func24, Try.ntmps24
          go_wp2_with (go_at_call 44; (with_reducible refine (HM.out _).mono ?_); rintro e wn ⟨rfl, rfl⟩)
          go_ret
          exact ⟨rfl, rfl⟩
      · rw [bound_no (.inr (by unfold okKG; rw [decide_eq_false_iff_not]; omega))]
        have HM := Lib.hid hm
        clear hm
        go_enter Try.func24, Try.ntmps24
        go_wp2_with (go_at_call 44; (with_reducible refine (HM.out _).mono ?_); rintro e wn ⟨rfl, rfl⟩)
        go_ret
        exact ⟨rfl, rfl⟩
    · rw [decide_eq_false hk] at hm
      rw [bound_no (.inr (by unfold okKG; rw [decide_eq_false_iff_not]; exact fun h => hk h.1))]
      have HM := Lib.hid hm
      clear hm hk
      go_enter Try.func24, Try.ntmps24
      go_wp2_with (go_at_call 44; (with_reducible refine (HM.out _).mono ?_); rintro e wn ⟨rfl, rfl⟩)
      go_ret
      exact ⟨rfl, rfl⟩

end Go.Proofs.Ytpdhkpgnajfobaa
end
