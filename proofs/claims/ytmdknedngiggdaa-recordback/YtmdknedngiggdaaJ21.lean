/- The contracts of check.sharp, of its function, and of slices.IndexFunc and ContainsFunc as it calls them. · The contracts of check.form and check.Hist. · The contracts of skylightref09.shaped, turned and Hist. · The contracts of skylightref09.turned and Hist. -/
import Derived.Test.YtmdknedngiggdaaJ20
section
/- The contracts of check.sharp, of its function, and of slices.IndexFunc and ContainsFunc as it calls them. -/
namespace Go.Proofs.Ytmdknedngiggdaa
open Go.RowKit Go.Shelf Go.Proofs.Rw Go.Proofs.Lh

theorem sharp1_any (t0 t1 : Nat) (w : World) :
    Calls Try.prog 87 #[.agg #[.int .u64 (t0 : Int), .int .u64 (t1 : Int)]] w fun e w' => e = .returned (.bool (t0 != t1)) ∧ w' = w.alloc (.cells #[.int .u64 (t0 : Int), .int .u64 (t1 : Int)] 73) := by
  go_enter Try.func87, Try.ntmps87
  go_wp2
  go_ret
  refine ⟨ret_b ?_, rfl⟩
  rw [Bool.eq_iff_iff]
  simp
  omega

set_option maxHeartbeats 1000000 in
theorem index_any (xs : List Sp) (hl : xs.length ≤ 1000000) (w : World) (A : Option Addr) (c : Nat) (h : Lies spL w w.heap.size (.slice A xs.length c) xs) :
    Calls Try.prog 95 #[.slice A xs.length c, .func (.func 87) #[] #[]] w fun e w' => ∃ r : Int, e = .returned (.int .i64 r) ∧ (decide (0 ≤ r) = !(xs.all fun x => x.1 == x.2)) ∧ -1 ≤ r ∧ r ≤ 1000000 ∧ Below w.heap.size w w' := by
  obtain ⟨N, hN⟩ : ∃ N, xs.length = N := ⟨_, rfl⟩
  have HL := Lib.hid h
  rw [hN] at HL hl ⊢
  have HN := Lib.hid hN
  clear h hN
  go_enter Try.func95, Try.ntmps95
  go_wp2
  go_loopw [8] (fun p wr => ∃ j : Nat, p = .int .i64 (j : Int) ∧ j ≤ N ∧ Hid (∀ i (hi : i < xs.length), i < j → xs[i].1 = xs[i].2) ∧ Hid (Below w.heap.size w wr)) (fun p _ => N - (intOf p).toNat)
  case atStart => exact ⟨0, rfl, Nat.zero_le _, Lib.hid fun i _ hi => absurd hi (by omega), Lib.hid (Below.refl _ _)⟩
  case round =>
    obtain ⟨j, rfl, hj, HALL, HB⟩ := hrel
    by_cases hlt : j < N
    · have hjl : j < xs.length := by rw [HN.out]; exact hlt
      obtain ⟨b2, off2, rfl, hb2, -, hc2⟩ := sp_at (HL.out.below HB.out) (by omega)
      obtain ⟨e0, e1⟩ := hc2 j hjl
      obtain ⟨y, hy⟩ : ∃ y, xs[j] = y := ⟨_, rfl⟩
      rw [hy] at e0 e1
      obtain ⟨t0, t1⟩ := y
      dsimp only at e0 e1
      have HY := Lib.hid hy
      have hbb : b2 < wr.heap.size := Nat.lt_of_lt_of_le hb2 HB.out.size
      have hs := sharp1_any t0 t1 wr
      obtain ⟨q, hq⟩ : ∃ q, (t0 != t1) = q := ⟨_, rfl⟩
      rw [hq] at hs
      have HS := Lib.hid hs
      have HQ := Lib.hid hq
      clear hs hq hy hc2
      cases q with
      | true =>
        go_wp2_with (go_at_call 87; refine HS.out.mono ?_; rintro e w9 ⟨rfl, rfl⟩)
        go_ret
        refine ⟨_, rfl, ?_, by omega, by omega, HB.out.alloc HB.out.size _⟩
        rw [decide_eq_true (by omega), eq_comm, Bool.not_eq_true', List.all_eq_false]
        refine ⟨xs[j], List.getElem_mem hjl, ?_⟩
        rw [HY.out]
        have := HQ.out
        simpa using this
      | false =>
        go_wp2_with (go_at_call 87; refine HS.out.mono ?_; rintro e w9 ⟨rfl, rfl⟩)
        refine ⟨⟨j + 1, by go_num, hlt, Lib.hid fun i hi hij => ?_, Lib.hid (HB.out.alloc HB.out.size _)⟩, by simp [intOf]; omega⟩
        rcases Nat.lt_or_ge i j with h' | h'
        · exact HALL.out i hi h'
        · have e : i = j := by omega
          subst e
          rw [HY.out]
          have := HQ.out
          simpa using this
    · have e : j = N := by omega
      subst e
      go_wp2
      go_ret
      refine ⟨_, rfl, ?_, by omega, by omega, HB.out⟩
      rw [eq_comm]
      simp
      intro a b hab
      obtain ⟨i, hi, e⟩ := List.getElem_of_mem hab
      have := HALL.out i hi (by rw [← HN.out]; exact hi)
      rw [e] at this
      exact this

theorem contains_any (xs : List Sp) (hl : xs.length ≤ 1000000) (w : World) (A : Option Addr) (c : Nat) (h : Lies spL w w.heap.size (.slice A xs.length c) xs) :
    Calls Try.prog 86 #[.slice A xs.length c, .func (.func 87) #[] #[]] w fun e w' => e = .returned (.bool (!(xs.all fun x => x.1 == x.2))) ∧ Below w.heap.size w w' := by
  have hi := index_any xs hl w A c h
  have HI := Lib.hid hi
  clear hi h
  go_enter Try.func86, Try.ntmps86
  go_wp2_with (go_at_call 95; refine HI.out.mono ?_; rintro e w1 ⟨r, rfl, hr, r0, r1, hb1⟩; have HB1 := Lib.hid hb1; have HR := Lib.hid hr; clear hb1 hr)
  go_ret
  exact ⟨ret_b HR.out, HB1.out⟩

set_option maxHeartbeats 1000000 in
theorem sharp_any (k g : Int) (ls : Lv) (hl : ls.length ≤ 1000000) (h0 : (lev ls 0).length ≤ 1000000) (w : World) (A : Option Addr) (c : Nat) (h : Reads w w.heap.size (.slice A ls.length c) ls) :
    Calls Try.prog 72 #[hv k g (.slice A ls.length c)] w fun e w' => e = .returned (.bool (flatB ls)) ∧ Below w.heap.size w w' := by
  rcases Nat.eq_zero_or_pos ls.length with hz | hz
  · have hf : flatB ls = true := by unfold flatB; rw [lev_ge (by omega)]; rfl
    rw [hf, hz]
    clear h hf
    go_enter Try.func72, Try.ntmps72
    go_wp2
    go_ret
    exact ⟨rfl, (Below.refl _ w).alloc (Nat.le_refl _) _⟩
  · have hb0 : Below w.heap.size w (w.alloc (.cells #[.int .i64 k, .int .i64 g, .slice A ls.length c] 30)) := (Below.refl _ w).alloc (Nat.le_refl _) _
    obtain ⟨b, off, rfl, hb, -, hc⟩ := h.at hz
    obtain ⟨Ai, ci, q0, -, -, hLi⟩ := hc 0 hz
    rw [← lev_lt hz] at q0 hLi
    rw [Nat.add_zero] at q0
    have hct := contains_any (lev ls 0) h0 _ Ai ci (hLi.grow hb0)
    have hf : (!(!(lev ls 0).all fun x => x.1 == x.2)) = flatB ls := by rw [Bool.not_not]; rfl
    rw [← hf]
    have hne : ((ls.length : Int) == 0) = false := by rw [beq_eq_false_iff_ne]; omega
    have hzi : (0 : Int) < (ls.length : Int) := by omega
    generalize (!(lev ls 0).all fun x => x.1 == x.2) = q at *
    have HC := Lib.hid hct
    have HB0 := Lib.hid hb0
    clear hct hb0 hf h hc hLi
    go_enter Try.func72, Try.ntmps72
    go_wp2_with (go_at_call 86; refine HC.out.mono ?_; rintro e w1 ⟨rfl, hb1⟩; have HB1 := Lib.hid hb1; clear hb1)
    go_ret
    exact ⟨rfl, thn HB0.out HB1.out⟩

end Go.Proofs.Ytmdknedngiggdaa
end
section
/- The contracts of check.form and check.Hist. -/
namespace Go.Proofs.Lh
theorem tot_cap (M : Nat) : ∀ ls : Lv, (∀ l ∈ ls, l.length ≤ M) → tot ls + M ≤ M * 2 ^ ls.length
  | [], _ => by simp [tot]
  | l :: ls, h => by
    have ih := tot_cap M ls fun x hx => h x (List.mem_cons_of_mem _ hx)
    have h1 := h l List.mem_cons_self
    rw [tot, List.length_cons, Nat.pow_succ, ← Nat.mul_assoc]
    omega
end Go.Proofs.Lh
namespace Go.Proofs.Ytmdknedngiggdaa
open Go.RowKit Go.Shelf Go.Proofs.Rw Go.Proofs.Lh Go.Proofs.Rn

theorem filled_len {k : Nat} {ls : Lv} (h : filledB k ls = true) (i : Nat) (hi : i < ls.length) : (lev ls i).length ≤ rm k i := by
  have := List.all_eq_true.1 h i (List.mem_range.2 hi)
  unfold levOk at this
  rw [decide_eq_true_iff] at this
  exact this.2.1
theorem filled_tot {k : Nat} (hk : k ≤ 1024) {ls : Lv} (h : filledB k ls = true) (hl : ls.length ≤ 52) : tot ls ≤ 4611686018427387904 := by
  cases ls with
  | nil => simp [tot]
  | cons l ls =>
    have h0 := filled_len h 0 (by simp)
    have h1 : (lev (l :: ls) 0).length = l.length := rfl
    have hc := tot_cap 513 ls fun x hx => by
      obtain ⟨i, hi, e⟩ := List.getElem_of_mem hx
      have h2 := filled_len h (i + 1) (by simp; omega)
      rw [lev_lt (by simp; omega), List.getElem_cons_succ, e] at h2
      unfold rm at h2
      rw [if_neg (by omega)] at h2
      omega
    have hp : 2 ^ ls.length ≤ 2 ^ 51 := Nat.pow_le_pow_right (by omega) (by simp at hl; omega)
    unfold rm at h0
    rw [if_pos rfl] at h0
    rw [tot]
    omega

/-- What holds of a histogram, of the first j of five. -/
def okTo (k : Nat) (ls : Lv) (j : Nat) : Prop := (1 ≤ j → ls.length ≤ 52) ∧ (2 ≤ j → filledB k ls = true) ∧ (3 ≤ j → tot ls ≤ 4503599627370496) ∧ (4 ≤ j → flatB ls = true) ∧ (5 ≤ j → inTurn 0 (allOf ls) = true)
theorem good_iff (k : Nat) (ls : Lv) : goodB k ls = true ↔ okTo k ls 5 := by
  unfold goodB shapedB okTo
  rw [Bool.and_eq_true, Bool.and_eq_true, Bool.and_eq_true, Bool.and_eq_true, decide_eq_true_iff, decide_eq_true_iff]
  show ((filledB k ls = true ∧ _) ∧ _) ∧ _ ↔ _
  constructor
  · rintro ⟨⟨⟨a, b⟩, c, d⟩, e⟩
    exact ⟨fun _ => b, fun _ => a, fun _ => e, fun _ => d, fun _ => c⟩
  · rintro ⟨a, b, c, d, e⟩
    exact ⟨⟨⟨b (by omega), a (by omega)⟩, e (by omega), d (by omega)⟩, c (by omega)⟩
theorem chk_two {k : Nat} (hk : 2 ≤ k) (hk1 : k ≤ 1024) {g : Int} (hg : 0 ≤ g ∧ g ≤ 4) {ls : Lv} (h : ¬ okTo k ls 5) : chk (k : Int) g ls = 2 := by
  unfold chk
  rw [if_pos ⟨⟨by omega, by omega⟩, hg⟩, Int.toNat_natCast, if_neg (fun e => h ((good_iff k ls).1 e))]
theorem chk_zero {k : Nat} (hk : 2 ≤ k) (hk1 : k ≤ 1024) {g : Int} (hg : 0 ≤ g ∧ g ≤ 4) {ls : Lv} (h : okTo k ls 5) : chk (k : Int) g ls = 0 := by
  unfold chk
  rw [if_pos ⟨⟨by omega, by omega⟩, hg⟩, Int.toNat_natCast, if_pos ((good_iff k ls).2 h)]
theorem chk_nine {k g : Int} (ls : Lv) (h : okKG k g = false) : chk k g ls = 9 := by
  unfold okKG at h
  rw [decide_eq_false_iff_not] at h
  unfold chk
  rw [if_neg h]

/-- The array of functions. -/
abbrev fiveV : Value := .agg #[.func (.func 69) #[] #[], .func (.func 70) #[] #[], .func (.func 71) #[] #[], .func (.func 72) #[] #[], .func (.func 73) #[] #[]]
theorem store_func (P : Program) (w : World) (a : Addr) (m : Mode) (fn : Fn) (bs lb : Array Value) : (store a (.func fn bs lb) m).run P w = stored P w a (.func fn bs lb) m := run_store P w a _ m rfl
attribute [local go_sem] store_func
theorem form_any (w : World) : Calls Try.prog 50 #[] w fun e w' => e = .returned fiveV ∧ Below w.heap.size w w' := by
  go_enter Try.func50, Try.ntmps50
  go_wp2
  refine bodyPost_ret (v := fiveV) (by simp [results, Try.results50, go_sem]) rfl ⟨rfl, (Below.refl _ w).alloc (Nat.le_refl _) _⟩

theorem five0 (w : World) : (Instr.index 97 fiveV (.int .i64 0)).run Try.prog w = .ok (.func (.func 69) #[] #[]) w := by kernel_rfl
theorem five1 (w : World) : (Instr.index 97 fiveV (.int .i64 1)).run Try.prog w = .ok (.func (.func 70) #[] #[]) w := by kernel_rfl
theorem five2 (w : World) : (Instr.index 97 fiveV (.int .i64 2)).run Try.prog w = .ok (.func (.func 71) #[] #[]) w := by kernel_rfl
theorem five3 (w : World) : (Instr.index 97 fiveV (.int .i64 3)).run Try.prog w = .ok (.func (.func 72) #[] #[]) w := by kernel_rfl
theorem five4 (w : World) : (Instr.index 97 fiveV (.int .i64 4)).run Try.prog w = .ok (.func (.func 73) #[] #[]) w := by kernel_rfl

set_option maxRecDepth 100000 in
set_option maxHeartbeats 4000000 in
theorem hist_any (k g : Int) (ls : Lv) (hl : ls.length ≤ 1000000) (hlv : ∀ i, (lev ls i).length ≤ 1000000) (w : World) (A : Option Addr) (c : Nat) (h : Reads w w.heap.size (.slice A ls.length c) ls) :
    Calls Try.prog 27 #[hv k g (.slice A ls.length c)] w fun e w' => e = .returned (.int .i64 (chk k g ls : Int)) ∧ Below w.heap.size w w' := by
  have hm := fun W => ckMay_any k g W
  obtain ⟨N, hN⟩ : ∃ N, ls.length = N := ⟨_, rfl⟩
  have HL := Lib.hid h
  have HLV := Lib.hid hlv
  have HHL := Lib.hid hl
  rw [hN] at HL ⊢
  have HN := Lib.hid hN
  clear h hN hlv hl
  obtain ⟨W0, hW0⟩ : ∃ W, w.alloc (.cells #[.int .i64 k, .int .i64 g, .slice A N c] 30) = W := ⟨_, rfl⟩
  have hB0 : Below w.heap.size w W0 := by rw [← hW0]; exact (Below.refl _ w).alloc (Nat.le_refl _) _
  have hp0 : W0.heap[w.heap.size]? = some (.cells #[.int .i64 k, .int .i64 g, .slice A N c] 30) := by rw [← hW0]; exact heap_alloc_new w _
  have HW0 := Lib.hid hW0
  have HB0 := Lib.hid hB0
  have HP0 := Lib.hid hp0
  have lw0 := lt_of hp0
  clear hW0 hB0 hp0
  cases hq : okKG k g with
  | false =>
    rw [chk_nine ls hq]
    simp only [hq] at hm
    have HM := Lib.hid hm
    clear hm hq
    go_enter Try.func27, Try.ntmps27
    go_upto_region 1 with (fail)
    rw [HW0.out]
    obtain ⟨x0, x1, x2⟩ := box3 HP0.out
    go_wp2_with (go_at_call 49; (with_reducible refine (HM.out _).mono ?_); rintro e wn ⟨rfl, rfl⟩)
    go_ret
    exact ⟨rfl, HB0.out⟩
  | true =>
    simp only [hq] at hm
    obtain ⟨⟨k0, k1⟩, hg⟩ := of_decide_eq_true hq
    obtain ⟨kn, rfl⟩ : ∃ kn : Nat, k = (kn : Int) := ⟨k.toNat, by omega⟩
    have hk2 : 2 ≤ kn := by omega
    have hk3 : kn ≤ 1024 := by omega
    have two := fun h => chk_two hk2 hk3 hg (ls := ls) h
    have zero := fun h => chk_zero hk2 hk3 hg (ls := ls) h
    obtain ⟨r, hr⟩ : ∃ r, chk (kn : Int) g ls = r := ⟨_, rfl⟩
    rw [hr] at two zero ⊢
    have HM := Lib.hid hm
    have TWO := Lib.hid two
    have ZERO := Lib.hid zero
    clear hm hq two zero hr hg
    go_enter Try.func27, Try.ntmps27
    go_upto_region 1 with (fail)
    rw [HW0.out]
    obtain ⟨x0, x1, x2⟩ := box3 HP0.out
    go_upto_region 4 with (first
      | (go_at_call 49; (with_reducible refine (HM.out _).mono ?_); rintro e wn ⟨rfl, rfl⟩)
      | (go_at_call 50; refine (form_any _).mono ?_; rintro e w1 ⟨rfl, hb1⟩; have HB1 := Lib.hid hb1; clear hb1))
    clear x0 x1 x2
    go_loopw [12] (fun p wr => ∃ j : Nat, p = .int .i64 (j : Int) ∧ j ≤ 5 ∧ Hid (okTo kn ls j) ∧ Hid (Below W0.heap.size W0 wr)) (fun p _ => 5 - (intOf p).toNat)
    case atStart => exact ⟨0, rfl, by omega, Lib.hid ⟨fun h => absurd h (by omega), fun h => absurd h (by omega), fun h => absurd h (by omega), fun h => absurd h (by omega), fun h => absurd h (by omega)⟩, HB1⟩
    case round =>
      obtain ⟨j, rfl, hj, HOK, HB⟩ := hrel
      have hh := (HB.out.block w.heap.size lw0).trans HP0.out
      obtain ⟨x0, x1, x2⟩ := box3 hh
      have lh := lt_of hh
      have hrd : Reads wr wr.heap.size (.slice A ls.length c) ls := by
        rw [HN.out]
        exact HL.out.grow (thn HB0.out HB.out)
      have HRD := Lib.hid hrd
      clear hh hrd
      rcases (show j = 0 ∨ j = 1 ∨ j = 2 ∨ j = 3 ∨ j = 4 ∨ j = 5 by omega) with rfl | rfl | rfl | rfl | rfl | rfl
      · have hcon := few_any (kn : Int) g N A c wr
        obtain ⟨q, hq⟩ : ∃ q, decide (N ≤ 52) = q := ⟨_, rfl⟩
        rw [hq] at hcon
        have HQ := Lib.hid hq
        have HCON := Lib.hid hcon
        clear hq hcon
        rw [show ((0 : Nat) : Int) = 0 from rfl]
        have hix := five0
        cases q with
        | true =>
          go_wp2_with (go_at_call 69; refine HCON.out.mono ?_; rintro e w9 ⟨rfl, hb9⟩; have HB9 := Lib.hid hb9; clear hb9)
          refine ⟨⟨1, rfl, by omega, Lib.hid ⟨fun _ => (by have := of_decide_eq_true HQ.out; rw [HN.out]; exact this), fun h => absurd h (by omega), fun h => absurd h (by omega), fun h => absurd h (by omega), fun h => absurd h (by omega)⟩, Lib.hid (thn HB.out HB9.out)⟩, by simp [intOf]⟩
        | false =>
          go_wp2_with (go_at_call 69; refine HCON.out.mono ?_; rintro e w9 ⟨rfl, hb9⟩; have HB9 := Lib.hid hb9; clear hb9)
          go_ret
          have hr2 := TWO.out (fun h => by have h3 := HQ.out; have h2 := of_decide_eq_false HQ.out; rw [← HN.out] at h2; exact h2 (h.1 (by omega)))
          rw [hr2]
          exact ⟨rfl, thn HB0.out (thn HB.out HB9.out)⟩
      · have hcon := filled_any kn hk2 hk3 g ls HHL.out wr A c HRD.out
        obtain ⟨q, hq⟩ : ∃ q, filledB kn ls = q := ⟨_, rfl⟩
        rw [hq, HN.out] at hcon
        have HQ := Lib.hid hq
        have HCON := Lib.hid hcon
        clear hq hcon
        rw [show ((1 : Nat) : Int) = 1 from rfl]
        have hix := five1
        cases q with
        | true =>
          go_wp2_with (go_at_call 70; refine HCON.out.mono ?_; rintro e w9 ⟨rfl, hb9⟩; have HB9 := Lib.hid hb9; clear hb9)
          refine ⟨⟨2, rfl, by omega, Lib.hid ⟨fun _ => HOK.out.1 (by omega), fun _ => HQ.out, fun h => absurd h (by omega), fun h => absurd h (by omega), fun h => absurd h (by omega)⟩, Lib.hid (thn HB.out HB9.out)⟩, by simp [intOf]⟩
        | false =>
          go_wp2_with (go_at_call 70; refine HCON.out.mono ?_; rintro e w9 ⟨rfl, hb9⟩; have HB9 := Lib.hid hb9; clear hb9)
          go_ret
          have hr2 := TWO.out (fun h => by have h3 := HQ.out; rw [h.2.1 (by omega)] at h3; cases h3)
          rw [hr2]
          exact ⟨rfl, thn HB0.out (thn HB.out HB9.out)⟩
      · have hcon := light_any (kn : Int) g ls (by have := HOK.out.1 (by omega); omega) (filled_tot hk3 (HOK.out.2.1 (by omega)) (HOK.out.1 (by omega))) wr A c HRD.out
        obtain ⟨q, hq⟩ : ∃ q, decide (tot ls ≤ 4503599627370496) = q := ⟨_, rfl⟩
        rw [hq, HN.out] at hcon
        have HQ := Lib.hid hq
        have HCON := Lib.hid hcon
        clear hq hcon
        rw [show ((2 : Nat) : Int) = 2 from rfl]
        have hix := five2
        cases q with
        | true =>
          go_wp2_with (go_at_call 71; refine HCON.out.mono ?_; rintro e w9 ⟨rfl, hb9⟩; have HB9 := Lib.hid hb9; clear hb9)
          refine ⟨⟨3, rfl, by omega, Lib.hid ⟨fun _ => HOK.out.1 (by omega), fun _ => HOK.out.2.1 (by omega), fun _ => (of_decide_eq_true HQ.out), fun h => absurd h (by omega), fun h => absurd h (by omega)⟩, Lib.hid (thn HB.out HB9.out)⟩, by simp [intOf]⟩
        | false =>
          go_wp2_with (go_at_call 71; refine HCON.out.mono ?_; rintro e w9 ⟨rfl, hb9⟩; have HB9 := Lib.hid hb9; clear hb9)
          go_ret
          have hr2 := TWO.out (fun h => by have h3 := HQ.out; exact of_decide_eq_false HQ.out (h.2.2.1 (by omega)))
          rw [hr2]
          exact ⟨rfl, thn HB0.out (thn HB.out HB9.out)⟩
      · have hcon := sharp_any (kn : Int) g ls HHL.out (HLV.out 0) wr A c HRD.out
        obtain ⟨q, hq⟩ : ∃ q, flatB ls = q := ⟨_, rfl⟩
        rw [hq, HN.out] at hcon
        have HQ := Lib.hid hq
        have HCON := Lib.hid hcon
        clear hq hcon
        rw [show ((3 : Nat) : Int) = 3 from rfl]
        have hix := five3
        cases q with
        | true =>
          go_wp2_with (go_at_call 72; refine HCON.out.mono ?_; rintro e w9 ⟨rfl, hb9⟩; have HB9 := Lib.hid hb9; clear hb9)
          refine ⟨⟨4, rfl, by omega, Lib.hid ⟨fun _ => HOK.out.1 (by omega), fun _ => HOK.out.2.1 (by omega), fun _ => HOK.out.2.2.1 (by omega), fun _ => HQ.out, fun h => absurd h (by omega)⟩, Lib.hid (thn HB.out HB9.out)⟩, by simp [intOf]⟩
        | false =>
          go_wp2_with (go_at_call 72; refine HCON.out.mono ?_; rintro e w9 ⟨rfl, hb9⟩; have HB9 := Lib.hid hb9; clear hb9)
          go_ret
          have hr2 := TWO.out (fun h => by have h3 := HQ.out; rw [h.2.2.2.1 (by omega)] at h3; cases h3)
          rw [hr2]
          exact ⟨rfl, thn HB0.out (thn HB.out HB9.out)⟩
      · have hcon := inTurn_any (kn : Int) g ls HHL.out HLV.out wr A c HRD.out
        obtain ⟨q, hq⟩ : ∃ q, inTurn 0 (allOf ls) = q := ⟨_, rfl⟩
        rw [hq, HN.out] at hcon
        have HQ := Lib.hid hq
        have HCON := Lib.hid hcon
        clear hq hcon
        rw [show ((4 : Nat) : Int) = 4 from rfl]
        have hix := five4
        cases q with
        | true =>
          go_wp2_with (go_at_call 73; refine HCON.out.mono ?_; rintro e w9 ⟨rfl, hb9⟩; have HB9 := Lib.hid hb9; clear hb9)
          refine ⟨⟨5, rfl, by omega, Lib.hid ⟨fun _ => HOK.out.1 (by omega), fun _ => HOK.out.2.1 (by omega), fun _ => HOK.out.2.2.1 (by omega), fun _ => HOK.out.2.2.2.1 (by omega), fun _ => HQ.out⟩, Lib.hid (thn HB.out HB9.out)⟩, by simp [intOf]⟩
        | false =>
          go_wp2_with (go_at_call 73; refine HCON.out.mono ?_; rintro e w9 ⟨rfl, hb9⟩; have HB9 := Lib.hid hb9; clear hb9)
          go_ret
          have hr2 := TWO.out (fun h => by have h3 := HQ.out; rw [h.2.2.2.2 (by omega)] at h3; cases h3)
          rw [hr2]
          exact ⟨rfl, thn HB0.out (thn HB.out HB9.out)⟩
      · rw [show ((5 : Nat) : Int) = 5 from rfl]
        clear x0 x1 x2
        go_wp2
        go_ret
        rw [ZERO.out HOK.out]
        exact ⟨rfl, thn HB0.out HB.out⟩

end Go.Proofs.Ytmdknedngiggdaa
end
section
/- The contracts of skylightref09.shaped, turned and Hist. -/
namespace Go.Proofs.Ytmdknedngiggdaa
open Go.RowKit Go.Shelf Go.Proofs.Rw Go.Proofs.Lh

set_option maxHeartbeats 2000000 in
theorem shaped_any (k : Nat) (hk : 2 ≤ k) (hk1 : k ≤ 1024) (g : Int) (ls : Lv) (hl : ls.length ≤ 1000000) (w : World) (A : Option Addr) (c : Nat) (h : Reads w w.heap.size (.slice A ls.length c) ls) :
    Calls Try.prog 43 #[hv (k : Int) g (.slice A ls.length c)] w fun e w' => e = .returned (.bool (shapedB k ls)) ∧ Below w.heap.size w w' := by
  have hno0 : filledB k ls = false → shapedB k ls = false := fun h => by
    have h' : (List.range ls.length).all (levOk k ls) = false := h
    unfold shapedB
    rw [h', Bool.false_and]
  have hyes0 : filledB k ls = true → shapedB k ls = decide (ls.length ≤ 52) := fun h => by
    have h' : (List.range ls.length).all (levOk k ls) = true := h
    unfold shapedB
    rw [h', Bool.true_and]
  have NO := Lib.hid hno0
  have YES := Lib.hid hyes0
  clear hno0 hyes0
  obtain ⟨N, hN⟩ : ∃ N, ls.length = N := ⟨_, rfl⟩
  have HL := Lib.hid h
  rw [hN] at HL hl ⊢
  have HN := Lib.hid hN
  have hkc : (k : Int) ≤ 9223372036854775806 := by omega
  clear h hN
  have HE := Lib.hid (show Below w.heap.size w (w.alloc (.cells #[.int .i64 (k : Int), .int .i64 g, .slice A N c] 27)) from (Below.refl _ w).alloc (Nat.le_refl _) _)
  go_enter Try.func43, Try.ntmps43
  go_wp2
  go_loop [3] (fun i => ∃ j : Nat, i = .int .i64 (j : Int) ∧ j ≤ N ∧ Hid (∀ i, i < j → levOk k ls i = true)) (fun i => N - (intOf i).toNat)
  case atStart => exact ⟨0, rfl, Nat.zero_le _, Lib.hid fun i hi => absurd hi (by omega)⟩
  case round =>
    obtain ⟨j, rfl, hj, HALL⟩ := hrel
    by_cases hlt : j < N
    · have hjl : j < ls.length := by rw [HN.out]; exact hlt
      obtain ⟨b, off, rfl, hb, -, hc⟩ := HL.out.at (by omega)
      obtain ⟨Ai, ci, q0, -, -, -⟩ := hc j hjl
      have hm1 := fun W => rLeast_any (k : Int) (j : Int) hkc W
      have hm2 := fun W => rMost_any (k : Int) (j : Int) hkc W
      have hrm2 := rm_two k j (by omega)
      have hrm3 : rm k j ≤ 1025 := by unfold rm; split <;> omega
      have hok : levOk k ls j = decide (1 ≤ ls[j].length ∧ ls[j].length ≤ rm k j ∧ (j + 1 = ls.length ∨ rm k j - 1 ≤ ls[j].length)) := by unfold levOk; rw [lev_lt hjl]
      rw [least_rm] at hm1 hm2
      rw [HN.out] at hok
      have hno := fun h => filled_no (k := k) hjl h
      generalize ls[j].length = m at *
      generalize rm k j = r at *
      have hq2 : ((r : Int) - 1) + 1 = (r : Int) := by omega
      simp only [hq2] at hm2
      obtain ⟨r', hr'⟩ : ∃ r' : Nat, (r : Int) - 1 = (r' : Int) := ⟨r - 1, by omega⟩
      simp only [hr'] at hm1
      have M1 := Lib.hid hm1
      have M2 := Lib.hid hm2
      have HOK := Lib.hid hok
      have HNO := Lib.hid hno
      clear hc hm1 hm2 hq2 hok hno hjl
      have next : levOk k ls j = true → ∀ i, i < j + 1 → levOk k ls i = true := fun h i hi => by
        rcases Nat.lt_or_ge i j with h' | h'
        · exact HALL.out i h'
        · rw [show i = j by omega]; exact h
      have NEXT := Lib.hid next
      clear next
      by_cases a1 : m < 1
      · have d1 : decide ((m : Int) < 1) = true := by rw [decide_eq_true_iff]; omega
        by_cases hl1 : j + 1 = N
        · have ht : ((j : Int) == (N : Int) - 1) = true := by rw [beq_iff_eq]; omega
          go_wp2_with (first
              | (go_at_call 61; (with_reducible refine (M2.out _).mono ?_); rintro e wn ⟨rfl, rfl⟩)
              | (go_at_call 62; (with_reducible refine (M1.out _).mono ?_); rintro e wn ⟨rfl, rfl⟩))
          go_ret
          exact ⟨ret_b (NO.out (HNO.out (by rw [HOK.out, decide_eq_false_iff_not]; omega))).symm, HE.out⟩
        · have ht : ((j : Int) == (N : Int) - 1) = false := by rw [beq_eq_false_iff_ne]; omega
          go_wp2_with (first
              | (go_at_call 61; (with_reducible refine (M2.out _).mono ?_); rintro e wn ⟨rfl, rfl⟩)
              | (go_at_call 62; (with_reducible refine (M1.out _).mono ?_); rintro e wn ⟨rfl, rfl⟩))
          go_ret
          exact ⟨ret_b (NO.out (HNO.out (by rw [HOK.out, decide_eq_false_iff_not]; omega))).symm, HE.out⟩
      · have d1 : decide ((m : Int) < 1) = false := by rw [decide_eq_false_iff_not]; omega
        by_cases a2 : r < m
        · have d2 : decide ((r : Int) < (m : Int)) = true := by rw [decide_eq_true_iff]; omega
          by_cases hl1 : j + 1 = N
          · have ht : ((j : Int) == (N : Int) - 1) = true := by rw [beq_iff_eq]; omega
            go_wp2_with (first
                | (go_at_call 61; (with_reducible refine (M2.out _).mono ?_); rintro e wn ⟨rfl, rfl⟩)
                | (go_at_call 62; (with_reducible refine (M1.out _).mono ?_); rintro e wn ⟨rfl, rfl⟩))
            go_ret
            exact ⟨ret_b (NO.out (HNO.out (by rw [HOK.out, decide_eq_false_iff_not]; omega))).symm, HE.out⟩
          · have ht : ((j : Int) == (N : Int) - 1) = false := by rw [beq_eq_false_iff_ne]; omega
            go_wp2_with (first
                | (go_at_call 61; (with_reducible refine (M2.out _).mono ?_); rintro e wn ⟨rfl, rfl⟩)
                | (go_at_call 62; (with_reducible refine (M1.out _).mono ?_); rintro e wn ⟨rfl, rfl⟩))
            go_ret
            exact ⟨ret_b (NO.out (HNO.out (by rw [HOK.out, decide_eq_false_iff_not]; omega))).symm, HE.out⟩
        · have d2 : decide ((r : Int) < (m : Int)) = false := by rw [decide_eq_false_iff_not]; omega
          by_cases hl1 : j + 1 = N
          · have ht : ((j : Int) == (N : Int) - 1) = true := by rw [beq_iff_eq]; omega
            go_wp2_with (first
                | (go_at_call 61; (with_reducible refine (M2.out _).mono ?_); rintro e wn ⟨rfl, rfl⟩)
                | (go_at_call 62; (with_reducible refine (M1.out _).mono ?_); rintro e wn ⟨rfl, rfl⟩))
            refine ⟨⟨j + 1, by go_num, hlt, Lib.hid (NEXT.out (by rw [HOK.out, decide_eq_true_iff]; omega))⟩, by simp [intOf]; omega⟩
          · have ht : ((j : Int) == (N : Int) - 1) = false := by rw [beq_eq_false_iff_ne]; omega
            by_cases a3 : m < r'
            · have d3 : decide ((m : Int) < (r' : Int)) = true := by rw [decide_eq_true_iff]; omega
              go_wp2_with (first
                  | (go_at_call 61; (with_reducible refine (M2.out _).mono ?_); rintro e wn ⟨rfl, rfl⟩)
                  | (go_at_call 62; (with_reducible refine (M1.out _).mono ?_); rintro e wn ⟨rfl, rfl⟩))
              go_ret
              exact ⟨ret_b (NO.out (HNO.out (by rw [HOK.out, decide_eq_false_iff_not]; omega))).symm, HE.out⟩
            · have d3 : decide ((m : Int) < (r' : Int)) = false := by rw [decide_eq_false_iff_not]; omega
              go_wp2_with (first
                  | (go_at_call 61; (with_reducible refine (M2.out _).mono ?_); rintro e wn ⟨rfl, rfl⟩)
                  | (go_at_call 62; (with_reducible refine (M1.out _).mono ?_); rintro e wn ⟨rfl, rfl⟩))
              refine ⟨⟨j + 1, by go_num, hlt, Lib.hid (NEXT.out (by rw [HOK.out, decide_eq_true_iff]; omega))⟩, by simp [intOf]; omega⟩
    · have e : j = N := by omega
      subst e
      go_wp2
      go_ret
      refine ⟨ret_b ?_, HE.out⟩
      rw [YES.out (filled_yes fun i hi => HALL.out i (by rw [← HN.out]; exact hi)), HN.out, decide_eq_decide]
      omega

/-- What 'turned' answers. -/
def turnedB (ls : Lv) : Bool := inTurn 0 (allOf ls) && flatB ls
theorem turned_no1 {ls : Lv} {m : Nat} {P L R : List Sp} {b : Sp} {i : Nat} (hP : allOf (ls.drop (i + 1)) = P) (hL : lev ls i = L) (hi : i < ls.length) (hm : L = R ++ b :: L.drop m) (h1 : inTurn 0 (P ++ R) = true) (h : nextB (behind (P ++ R)) b = false) : turnedB ls = false := by
  obtain ⟨suf, hs⟩ := allOf_pre ls i
  rw [allOf_drop hi, hP, hL] at hs
  unfold turnedB
  rw [hs, hm, show P ++ (R ++ b :: L.drop m) ++ suf = ((P ++ R) ++ [b]) ++ (L.drop m ++ suf) by simp, turn_pre (by rw [turn_snoc h1, h]), Bool.false_and]
theorem turned_no2 {ls : Lv} {b : Sp} (hb : b ∈ lev ls 0) (h : b.1 ≠ b.2) : turnedB ls = false := by
  unfold turnedB flatB
  rw [Bool.and_eq_false_iff]
  right
  rw [List.all_eq_false]
  exact ⟨b, hb, by simpa using h⟩
theorem flat_yes {ls : Lv} (h : ∀ x ∈ lev ls 0, x.1 = x.2) : flatB ls = true := by
  unfold flatB
  rw [List.all_eq_true]
  intro x hx
  simpa using h x hx

end Go.Proofs.Ytmdknedngiggdaa
end
section
/- The contracts of skylightref09.turned and Hist. -/
namespace Go.Proofs.Ytmdknedngiggdaa
open Go.RowKit Go.Shelf Go.Proofs.Rw Go.Proofs.Lh

set_option maxRecDepth 100000 in
set_option maxHeartbeats 8000000 in
theorem turned_any (k g : Int) (ls : Lv) (hl : ls.length ≤ 1000000) (hlv : ∀ i, (lev ls i).length ≤ 1000000) (w : World) (A : Option Addr) (c : Nat) (h : Reads w w.heap.size (.slice A ls.length c) ls) :
    Calls Try.prog 44 #[hv k g (.slice A ls.length c)] w fun e w' => e = .returned (.bool (turnedB ls)) ∧ Below w.heap.size w w' := by
  obtain ⟨N, hN⟩ : ∃ N, ls.length = N := ⟨_, rfl⟩
  obtain ⟨W0, hW0⟩ : ∃ W, w.alloc (.cells #[.int .i64 k, .int .i64 g, .slice A N c] 27) = W := ⟨_, rfl⟩
  have hB0 : Below w.heap.size w W0 := by rw [← hW0]; exact (Below.refl _ w).alloc (Nat.le_refl _) _
  have hp0 : W0.heap[w.heap.size]? = some (.cells #[.int .i64 k, .int .i64 g, .slice A N c] 27) := by rw [← hW0]; exact heap_alloc_new w _
  have hL0 := h.grow hB0
  rw [hN] at hl hL0 ⊢
  have HN := Lib.hid hN
  have HW0 := Lib.hid hW0
  have HB0 := Lib.hid hB0
  have HP0 := Lib.hid hp0
  have HL0 := Lib.hid hL0
  have HLV := Lib.hid hlv
  clear h hN hW0 hB0 hp0 hL0 hlv
  go_enter Try.func44, Try.ntmps44
  go_upto_region 1 with (fail)
  rw [HW0.out]
  clear HW0
  obtain ⟨x0, x1, x2⟩ := box3 HP0.out
  have lh := lt_of HP0.out
  have hNi : (N : Int) ≤ 1000000 := by omega
  go_wp2
  clear x0 x1 x2 lh
  go_loopw [3, 4] (fun s3 s4 wr => ∃ m : Nat, s4 = .int .i64 ((m : Int) - 1) ∧ m ≤ N ∧ s3 = .int .u64 (behind (allOf (ls.drop m)) : Nat) ∧ Hid (inTurn 0 (allOf (ls.drop m)) = true ∧ (m = 0 → flatB ls = true ∨ N = 0)) ∧ Hid (Below W0.heap.size W0 wr)) (fun _ s4 _ => (intOf s4 + 1).toNat)
  case atStart =>
    have e : allOf (ls.drop N) = [] := by rw [← HN.out, List.drop_length]; rfl
    exact ⟨N, by go_num, Nat.le_refl _, by rw [e]; rfl, Lib.hid ⟨by rw [e]; rfl, fun h => .inr h⟩, Lib.hid (Below.refl _ _)⟩
  case round =>
    obtain ⟨m, rfl, hmN, rfl, HT, HB⟩ := hrel
    have hh := (HB.out.block w.heap.size (lt_of HP0.out)).trans HP0.out
    obtain ⟨x0, x1, x2⟩ := box3 hh
    have lh := lt_of hh
    by_cases hm0 : 0 < m
    · obtain ⟨i, rfl⟩ : ∃ i, m = i + 1 := ⟨m - 1, by omega⟩
      have hil : i < ls.length := by rw [HN.out]; omega
      have hiN : i < N := by omega
      have hLr := HL0.out.grow HB.out
      obtain ⟨b, off, rfl, hb, -, hc⟩ := hLr.at (by omega)
      obtain ⟨Ai, ci, q0, -, -, hLi⟩ := hc i hil
      have hdr := allOf_drop hil
      have hm6 := HLV.out i
      have hlev := lev_lt hil
      rw [← hlev] at q0 hLi
      have hiI : ((i + 1 : Nat) : Int) - 1 = (i : Int) := by omega
      rw [hiI]
      obtain ⟨P, hP⟩ : ∃ P, allOf (ls.drop (i + 1)) = P := ⟨_, rfl⟩
      obtain ⟨L, hLL⟩ : ∃ L, lev ls i = L := ⟨_, rfl⟩
      rw [hP] at HT ⊢
      rw [hP, hLL] at hdr
      rw [hLL] at q0 hLi hm6
      obtain ⟨mm, hmm⟩ : ∃ m, L.length = m := ⟨_, rfl⟩
      rw [hmm] at q0 hLi hm6
      have HDR := Lib.hid hdr
      have HPP := Lib.hid hP
      have HLE := Lib.hid hLL
      have HMM := Lib.hid hmm
      have HLI := Lib.hid hLi
      have Q0 := Lib.hid q0
      have HH := Lib.hid hh
      have HIL := Lib.hid hil
      clear hc hLi hLr hdr hP hLL hmm hil q0 hh hlev hiI x0 x1 hm0
      rename World => wo
      go_wp2
      go_loopw [3, 5] (fun s3 s5 wr => ∃ j : Nat, s5 = .int .i64 (j : Int) ∧ j ≤ mm ∧ s3 = .int .u64 (behind (P ++ L.take j) : Nat) ∧ Hid (inTurn 0 (P ++ L.take j) = true ∧ (i = 0 → ∀ x ∈ L.take j, x.1 = x.2)) ∧ Hid (Below wo.heap.size wo wr)) (fun _ s5 _ => mm - (intOf s5).toNat)
      case atStart => exact ⟨0, rfl, Nat.zero_le _, by rw [List.take_zero, List.append_nil], Lib.hid ⟨by rw [List.take_zero, List.append_nil]; exact HT.out.1, fun _ x hx => by simp at hx⟩, Lib.hid (Below.refl _ _)⟩
      case round =>
        obtain ⟨j, rfl, hjm, rfl, HT2, HB2⟩ := hrel
        have hh := (HB2.out.block w.heap.size (lt_of HH.out)).trans HH.out
        clear x2
        obtain ⟨x0, x1, x2⟩ := box3 hh
        have lh2 := lt_of hh
        have q0 := (HB2.out.cell (p := ⟨b, off + i, none⟩) hb).trans Q0.out
        have lb : b < wr.heap.size := Nat.lt_of_lt_of_le hb HB2.out.size
        by_cases hjt : j < mm
        · have hjl : j < L.length := by rw [HMM.out]; exact hjt
          obtain ⟨b2, off2, rfl, hb2, -, hc2⟩ := sp_at (HLI.out.grow HB2.out) (by omega)
          obtain ⟨e0, e1⟩ := hc2 j hjl
          have htk : L.take (j + 1) = L.take j ++ [L[j]] := List.take_succ_eq_append_getElem hjl
          have hsp : L = L.take j ++ L[j] :: L.drop (j + 1) := by
            rw [List.getElem_cons_drop, List.take_append_drop]
          have hmem : L[j] ∈ L := List.getElem_mem hjl
          obtain ⟨y, hy⟩ : ∃ y, L[j] = y := ⟨_, rfl⟩
          rw [hy] at e0 e1 htk hsp hmem
          obtain ⟨t0, t1⟩ := y
          dsimp only at e0 e1
          have hno1 : nextB (behind (P ++ L.take j)) (t0, t1) = false → turnedB ls = false := fun h => turned_no1 HPP.out HLE.out HIL.out hsp HT2.out.1 h
          have hno2 : i = 0 → t0 ≠ t1 → turnedB ls = false := fun h0 hne => turned_no2 (b := (t0, t1)) (by rw [← h0, HLE.out]; exact hmem) hne
          have hgo : nextB (behind (P ++ L.take j)) (t0, t1) = true → (i = 0 → t0 = t1) → behind (P ++ L.take (j + 1)) = t1 ∧ inTurn 0 (P ++ L.take (j + 1)) = true ∧ (i = 0 → ∀ x ∈ L.take (j + 1), x.1 = x.2) := fun h h' => by
            rw [htk, ← List.append_assoc]
            refine ⟨behind_snoc _ _, by rw [turn_snoc HT2.out.1, h], fun h0 x hx => ?_⟩
            rcases List.mem_append.1 hx with hx | hx
            · exact HT2.out.2 h0 x hx
            · rw [List.mem_singleton.1 hx]
              exact h' h0
          obtain ⟨a, ha⟩ : ∃ a, behind (P ++ L.take j) = a := ⟨_, rfl⟩
          rw [ha] at hno1 hgo ⊢
          have NO1 := Lib.hid hno1
          have NO2 := Lib.hid hno2
          have GO := Lib.hid hgo
          have hbn : Below wo.heap.size wo (wr.alloc (.cells #[.int .u64 (t0 : Int), .int .u64 (t1 : Int)] 73)) := HB2.out.alloc HB2.out.size _
          have HBN := Lib.hid hbn
          have HBR := Lib.hid (thn HB0.out (thn HB.out hbn))
          clear hbn hno1 hno2 hgo hh x0 x1 hc2 hy htk hsp hmem hjl ha
          by_cases c1 : t1 < t0
          · have d1 : decide (t1 < t0) = true := by simpa using c1
            go_wp2
            go_ret
            exact ⟨ret_b (NO1.out (by unfold nextB; rw [decide_eq_false_iff_not]; dsimp only; omega)).symm, HBR.out⟩
          · have d1 : decide (t1 < t0) = false := by simpa using c1
            by_cases c2 : t0 < a
            · have d2 : decide (t0 < a) = true := by simpa using c2
              go_wp2
              go_ret
              exact ⟨ret_b (NO1.out (by unfold nextB; rw [decide_eq_false_iff_not]; dsimp only; omega)).symm, HBR.out⟩
            · have d2 : decide (t0 < a) = false := by simpa using c2
              by_cases c3 : 9223372036854775807 < t1
              · have d3 : decide ((9223372036854775807 : Int) < (t1 : Int)) = true := by rw [decide_eq_true_iff]; omega
                go_wp2
                go_ret
                exact ⟨ret_b (NO1.out (by unfold nextB; rw [decide_eq_false_iff_not]; dsimp only; omega)).symm, HBR.out⟩
              · have d3 : decide ((9223372036854775807 : Int) < (t1 : Int)) = false := by rw [decide_eq_false_iff_not]; omega
                have hnx : nextB a (t0, t1) = true := by unfold nextB; rw [decide_eq_true_iff]; dsimp only; omega
                have HNX := Lib.hid hnx
                clear hnx
                by_cases c4 : i = 0
                · have d4 : ((i : Int) == 0) = true := by rw [beq_iff_eq]; omega
                  have C4 := Lib.hid c4
                  clear c4
                  by_cases c5 : t0 = t1
                  · have d5 : ((t0 : Int) != (t1 : Int)) = false := by simp; omega
                    have C5 := Lib.hid c5
                    clear c5
                    go_wp2
                    obtain ⟨g1, g2, g3⟩ := GO.out HNX.out (fun _ => C5.out)
                    refine ⟨⟨j + 1, by go_num, hjt, by rw [g1], Lib.hid ⟨g2, g3⟩, HBN⟩, by simp [intOf]; omega⟩
                  · have d5 : ((t0 : Int) != (t1 : Int)) = true := by simp; omega
                    go_wp2
                    go_ret
                    exact ⟨ret_b (NO2.out C4.out c5).symm, HBR.out⟩
                · have d4 : ((i : Int) == 0) = false := by rw [beq_eq_false_iff_ne]; omega
                  go_wp2
                  obtain ⟨g1, g2, g3⟩ := GO.out HNX.out (fun h => absurd h c4)
                  refine ⟨⟨j + 1, by go_num, hjt, by rw [g1], Lib.hid ⟨g2, g3⟩, HBN⟩, by simp [intOf]; omega⟩
        · have e : j = mm := by omega
          subst e
          have htl : L.take j = L := by rw [← HMM.out, List.take_length]
          rw [htl] at HT2 ⊢
          have hfin : inTurn 0 (allOf (ls.drop i)) = true ∧ (i = 0 → flatB ls = true ∨ N = 0) := by
            rw [HDR.out]
            refine ⟨HT2.out.1, fun h => .inl (flat_yes fun x hx => ?_)⟩
            rw [← h, HLE.out] at hx
            exact HT2.out.2 h x hx
          rw [← HDR.out]
          have HFIN := Lib.hid hfin
          clear hh x0 x1 hfin htl
          go_wp2
          refine ⟨⟨i, by go_num, by omega, rfl, HFIN, Lib.hid (thn HB.out HB2.out)⟩, by simp [intOf] <;> omega⟩
    · have e : m = 0 := by omega
      subst e
      have hfin : turnedB ls = true := by
        have h1 := HT.out.1
        rw [List.drop_zero] at h1
        unfold turnedB
        rw [h1, Bool.true_and]
        rcases HT.out.2 rfl with h | h
        · exact h
        · exact flat_yes fun x hx => by rw [lev_ge (by have := HN.out; omega)] at hx; simp at hx
      have HFIN := Lib.hid hfin
      clear hfin hh x0 x1
      rw [show ((0 : Nat) : Int) - 1 = -1 from rfl]
      go_wp2
      go_ret
      exact ⟨ret_b HFIN.out.symm, thn HB0.out HB.out⟩

set_option maxHeartbeats 2000000 in
theorem rhist_any (k g : Int) (ls : Lv) (hl : ls.length ≤ 1000000) (hlv : ∀ i, (lev ls i).length ≤ 1000000) (w : World) (A : Option Addr) (c : Nat) (h : Reads w w.heap.size (.slice A ls.length c) ls) :
    Calls Try.prog 23 #[hv k g (.slice A ls.length c)] w fun e w' => e = .returned (.int .i64 (chk k g ls : Int)) ∧ Below w.heap.size w w' := by
  have hm := fun W => rmay9_any k W
  have hb0 : Below w.heap.size w (w.alloc (.cells #[.int .i64 k, .int .i64 g, .slice A ls.length c] 27)) := (Below.refl _ w).alloc (Nat.le_refl _) _
  have hp0 : (w.alloc (.cells #[.int .i64 k, .int .i64 g, .slice A ls.length c] 27)).heap[w.heap.size]? = some (.cells #[.int .i64 k, .int .i64 g, .slice A ls.length c] 27) := heap_alloc_new w _
  have hL0 := h.grow hb0
  obtain ⟨W0, hW0⟩ : ∃ W, w.alloc (.cells #[.int .i64 k, .int .i64 g, .slice A ls.length c] 27) = W := ⟨_, rfl⟩
  rw [hW0] at hb0 hp0 hL0
  have HW0 := Lib.hid hW0
  have HB0 := Lib.hid hb0
  have HP0 := Lib.hid hp0
  have HL0 := Lib.hid hL0
  obtain ⟨x0, x1, x2⟩ := box3 hp0
  have lh := lt_of hp0
  clear hW0 hb0 hp0 hL0 h
  by_cases hk : 2 ≤ k ∧ k ≤ 1024
  · rw [decide_eq_true hk] at hm
    have HM := Lib.hid hm
    clear hm
    by_cases g0 : 0 ≤ g
    · by_cases g1 : g ≤ 4
      · obtain ⟨kn, rfl⟩ : ∃ kn : Nat, k = (kn : Int) := ⟨k.toNat, by omega⟩
        have hk2 : 2 ≤ kn := by omega
        have hk3 : kn ≤ 1024 := by omega
        have hch : chk (kn : Int) g ls = if goodB kn ls = true then 0 else 2 := by
          unfold chk
          rw [if_pos ⟨hk, g0, g1⟩, Int.toNat_natCast]
        have hgd : goodB kn ls = (shapedB kn ls && turnedB ls && decide (tot ls ≤ 4503599627370496)) := rfl
        have hs1 := shaped_any kn hk2 hk3 g ls hl W0 A c HL0.out
        have hft : shapedB kn ls = true → ls.length ≤ 52 ∧ tot ls ≤ 4611686018427387904 := fun h => by
          unfold shapedB at h
          rw [Bool.and_eq_true, decide_eq_true_iff] at h
          exact ⟨h.2, filled_tot hk3 h.1 h.2⟩
        rw [hch, hgd]
        obtain ⟨q1, hq1⟩ : ∃ q, shapedB kn ls = q := ⟨_, rfl⟩
        rw [hq1] at hs1 hft ⊢
        have HS1 := Lib.hid hs1
        have d0 : decide (g < 0) = false := by rw [decide_eq_false_iff_not]; omega
        have d1 : decide (4 < g) = false := by rw [decide_eq_false_iff_not]; omega
        clear hs1 hch hgd hq1
        cases q1 with
        | false =>
          clear hft hk
          rw [show (if (false && turnedB ls && decide (tot ls ≤ 4503599627370496)) = true then 0 else 2 : Nat) = 2 by simp]
          go_enter Try.func23, Try.ntmps23
          go_upto_region 1 with (fail)
          rw [HW0.out]
          go_wp2_with (first
            | (go_at_call 42; (with_reducible refine (HM.out _).mono ?_); rintro e wn ⟨rfl, rfl⟩)
            | (go_at_call 43; refine HS1.out.mono ?_; rintro e w1 ⟨rfl, hb1⟩; have HB1 := Lib.hid hb1; clear hb1))
          go_ret
          exact ⟨rfl, thn HB0.out HB1.out⟩
        | true =>
          obtain ⟨hl52, ht62⟩ := hft rfl
          have ht1 := fun (W : World) (hW : Below W0.heap.size W0 W) => turned_any (kn : Int) g ls hl hlv W A c (HL0.out.grow hW)
          have ho1 := fun (W : World) (hW : Below W0.heap.size W0 W) => rtotal_rd (kn : Int) g ls (by omega) ht62 W A c (HL0.out.grow hW)
          obtain ⟨q2, hq2⟩ : ∃ q, turnedB ls = q := ⟨_, rfl⟩
          rw [hq2] at ht1 ⊢
          have HT1 := Lib.hid ht1
          have HO1 := Lib.hid ho1
          clear ht1 ho1 hft hk hq2
          cases q2 with
          | false =>
            rw [show (if (true && false && decide (tot ls ≤ 4503599627370496)) = true then 0 else 2 : Nat) = 2 by simp]
            go_enter Try.func23, Try.ntmps23
            go_upto_region 1 with (fail)
            rw [HW0.out]
            go_wp2_with (first
              | (go_at_call 42; (with_reducible refine (HM.out _).mono ?_); rintro e wn ⟨rfl, rfl⟩)
              | (go_at_call 43; refine HS1.out.mono ?_; rintro e w1 ⟨rfl, hb1⟩; have HB1 := Lib.hid hb1; obtain ⟨y0, y1, y2⟩ := box3 ((hb1.block _ lh).trans HP0.out); have lh1 := Nat.lt_of_lt_of_le lh hb1.size; clear hb1)
              | (go_at_call 44; refine (HT1.out _ HB1.out).mono ?_; rintro e w2 ⟨rfl, hb2⟩; have HB2 := Lib.hid (thn HB1.out hb2); clear hb2))
            go_ret
            exact ⟨rfl, thn HB0.out HB2.out⟩
          | true =>
            generalize tot ls = t at *
            by_cases hd : t ≤ 4503599627370496
            · rw [show (if (true && true && decide (t ≤ 4503599627370496)) = true then 0 else 2 : Nat) = 0 by simp [hd]]
              have d3 : decide ((4503599627370496 : Int) < (t : Int)) = false := by rw [decide_eq_false_iff_not]; omega
              go_enter Try.func23, Try.ntmps23
              go_upto_region 1 with (fail)
              rw [HW0.out]
              go_wp2_with (first
                | (go_at_call 42; (with_reducible refine (HM.out _).mono ?_); rintro e wn ⟨rfl, rfl⟩)
                | (go_at_call 43; refine HS1.out.mono ?_; rintro e w1 ⟨rfl, hb1⟩; have HB1 := Lib.hid hb1; obtain ⟨y0, y1, y2⟩ := box3 ((hb1.block _ lh).trans HP0.out); have lh1 := Nat.lt_of_lt_of_le lh hb1.size; clear hb1)
                | (go_at_call 44; refine (HT1.out _ HB1.out).mono ?_; rintro e w2 ⟨rfl, hb2⟩; have HB2 := Lib.hid (thn HB1.out hb2); obtain ⟨z0, z1, z2⟩ := box3 ((HB2.out.block _ lh).trans HP0.out); have lh2 := Nat.lt_of_lt_of_le lh HB2.out.size; clear hb2)
                | (go_at_call 45; refine (HO1.out _ HB2.out).mono ?_; rintro e w3 ⟨rfl, hb3⟩; have HB3 := Lib.hid (thn HB2.out hb3); clear hb3))
              go_ret
              exact ⟨rfl, thn HB0.out HB3.out⟩
            · rw [show (if (true && true && decide (t ≤ 4503599627370496)) = true then 0 else 2 : Nat) = 2 by simp [hd]]
              have d3 : decide ((4503599627370496 : Int) < (t : Int)) = true := by rw [decide_eq_true_iff]; omega
              go_enter Try.func23, Try.ntmps23
              go_upto_region 1 with (fail)
              rw [HW0.out]
              go_wp2_with (first
                | (go_at_call 42; (with_reducible refine (HM.out _).mono ?_); rintro e wn ⟨rfl, rfl⟩)
                | (go_at_call 43; refine HS1.out.mono ?_; rintro e w1 ⟨rfl, hb1⟩; have HB1 := Lib.hid hb1; obtain ⟨y0, y1, y2⟩ := box3 ((hb1.block _ lh).trans HP0.out); have lh1 := Nat.lt_of_lt_of_le lh hb1.size; clear hb1)
                | (go_at_call 44; refine (HT1.out _ HB1.out).mono ?_; rintro e w2 ⟨rfl, hb2⟩; have HB2 := Lib.hid (thn HB1.out hb2); obtain ⟨z0, z1, z2⟩ := box3 ((HB2.out.block _ lh).trans HP0.out); have lh2 := Nat.lt_of_lt_of_le lh HB2.out.size; clear hb2)
                | (go_at_call 45; refine (HO1.out _ HB2.out).mono ?_; rintro e w3 ⟨rfl, hb3⟩; have HB3 := Lib.hid (thn HB2.out hb3); clear hb3))
              go_ret
              exact ⟨rfl, thn HB0.out HB3.out⟩
      · rw [chk_nine ls (by unfold okKG; rw [decide_eq_false_iff_not]; omega)]
        have d0 : decide (g < 0) = false := by rw [decide_eq_false_iff_not]; omega
        have d1 : decide (4 < g) = true := by rw [decide_eq_true_iff]; omega
        clear hk
        go_enter Try.func23, Try.ntmps23
        go_upto_region 1 with (fail)
        rw [HW0.out]
        go_wp2_with (go_at_call 42; (with_reducible refine (HM.out _).mono ?_); rintro e wn ⟨rfl, rfl⟩)
        go_ret
        exact ⟨rfl, HB0.out⟩
    · rw [chk_nine ls (by unfold okKG; rw [decide_eq_false_iff_not]; omega)]
      have d0 : decide (g < 0) = true := by rw [decide_eq_true_iff]; omega
      clear hk
      go_enter Try.func23, Try.ntmps23
      go_upto_region 1 with (fail)
      rw [HW0.out]
      go_wp2_with (go_at_call 42; (with_reducible refine (HM.out _).mono ?_); rintro e wn ⟨rfl, rfl⟩)
      go_ret
      exact ⟨rfl, HB0.out⟩
  · rw [decide_eq_false hk] at hm
    rw [chk_nine ls (by unfold okKG; rw [decide_eq_false_iff_not]; exact fun h => hk h.1)]
    have HM := Lib.hid hm
    clear hm hk
    go_enter Try.func23, Try.ntmps23
    go_upto_region 1 with (fail)
    rw [HW0.out]
    go_wp2_with (go_at_call 42; (with_reducible refine (HM.out _).mono ?_); rintro e wn ⟨rfl, rfl⟩)
    go_ret
    exact ⟨rfl, HB0.out⟩

end Go.Proofs.Ytmdknedngiggdaa
end
