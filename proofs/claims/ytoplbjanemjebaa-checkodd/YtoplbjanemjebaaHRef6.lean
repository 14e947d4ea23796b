/- The contracts of skylightref06's small functions: Total, Last, at. -/
import Derived.Test.YtoplbjanemjebaaHSame2
import Derived.Test.YtoplbjanemjebaaRowed5
namespace Go.Proofs.Ytoplbjanemjebaa
open Go.RowKit Go.Proofs.Rw Go.Proofs.Lh

set_option maxHeartbeats 1000000 in
theorem rat_any (k g : Int) (ls : Lv) (i : Nat) (w : World) (B : Nat) (hB : B ≤ w.heap.size) (A : Option Addr) (c : Nat) (h : Levs w B (.slice A ls.length c) ls) :
    Calls Try.prog 35 #[hv k g (.slice A ls.length c), .int .i64 (i : Int)] w fun e w' => ∃ A' c', e = .returned (.slice A' (lev ls i).length c') ∧ Lies spL w B (.slice A' (lev ls i).length c') (lev ls i) ∧ Below w.heap.size w w' := by
  rcases Nat.lt_or_ge i ls.length with hi | hi
  · obtain ⟨b, off, rfl, hb, _, hc⟩ := h.at (by omega)
    obtain ⟨Ai, ci, hcell, _, _, hL⟩ := hc i hi
    rw [lev_lt hi]
    have hbs : b < w.heap.size := by omega
    have HL := Lib.hid hL
    generalize ls[i] = l at *
    clear h hc hL
    go_enter Try.func35, Try.ntmps35
    go_wp2
    go_ret
    exact ⟨_, _, rfl, HL.out, (Below.refl _ w).alloc (Nat.le_refl _) _⟩
  · rw [lev_ge hi]
    clear h
    go_enter Try.func35, Try.ntmps35
    go_wp2
    go_ret
    exact ⟨none, 0, rfl, Lies.nil _ _ (by unfold maxLen; omega), (Below.refl _ w).alloc (Nat.le_refl _) _⟩

set_option maxHeartbeats 1000000 in
theorem rlast_any (k g : Int) (ls : Lv) (w : World) (A : Option Addr) (c : Nat) (h : Levs w w.heap.size (.slice A ls.length c) ls) (hl : (lev ls 0).length ≤ 1000000) :
    Calls Try.prog 33 #[hv k g (.slice A ls.length c)] w fun e w' => e = lastV ls ∧ Below w.heap.size w w' := by
  rcases Nat.eq_zero_or_pos ls.length with h0 | h0
  · have hz := lastOf_nil (ls := ls) (by rw [lev_ge (by omega)]; rfl)
    have HZ := Lib.hid hz
    rw [h0]
    clear h hz hl
    go_enter Try.func33, Try.ntmps33
    go_wp2
    refine bodyPost_ret (results_tmp2 rfl _ _ _) rfl ⟨?_, (Below.refl _ w).alloc (Nat.le_refl _) _⟩
    unfold lastV
    rw [HZ.out]
    rfl
  · obtain ⟨b, off, rfl, hb, -, hc⟩ := h.at (by omega)
    obtain ⟨Ai, ci, hcell, -, -, hL⟩ := hc 0 h0
    rw [← lev_lt h0] at hcell hL
    have hne : ((ls.length : Int) == 0) = false := by rw [beq_eq_false_iff_ne]; omega
    rw [Nat.add_zero] at hcell
    have h0i : (0 : Int) < (ls.length : Int) := by omega
    rcases hn : (lev ls 0).length with _ | n
    · have hz := lastOf_nil hn
      rw [hn] at hcell
      have HZ := Lib.hid hz
      clear h hz hl hc hL hn
      go_enter Try.func33, Try.ntmps33
      go_wp2
      refine bodyPost_ret (results_tmp2 rfl _ _ _) rfl ⟨?_, (Below.refl _ w).alloc (Nat.le_refl _) _⟩
      unfold lastV
      rw [HZ.out]
      rfl
    · have hz := lastOf_at (n := n) hn.symm
      obtain ⟨x, hx⟩ : ∃ x, (lev ls 0)[n]? = some x := ⟨_, List.getElem?_eq_getElem (by omega)⟩
      have hxe : (lev ls 0)[n]'(by omega) = x := by rw [List.getElem?_eq_getElem (by omega)] at hx; injection hx
      rw [hxe] at hz
      obtain ⟨b2, off2, rfl, hbb, -, hc2⟩ := sp_at hL (by omega)
      obtain ⟨-, q1⟩ := hc2 n (by omega)
      rw [hxe] at q1
      rw [hn] at hcell
      have HZ := Lib.hid hz
      have hn2 : n < 1000000 := by omega
      have e1 : ((n + 1 : Nat) : Int) - 1 = (n : Int) := by omega
      have e2 : (((n + 1 : Nat) : Int) == 0) = false := by rw [beq_eq_false_iff_ne]; omega
      clear h hz hl hc hL hn hc2 hx hxe
      go_enter Try.func33, Try.ntmps33
      go_wp2
      refine bodyPost_ret (results_tmp2 rfl _ _ _) rfl ⟨?_, (Below.refl _ w).alloc (Nat.le_refl _) _⟩
      unfold lastV
      rw [HZ.out]
      rfl

set_option maxHeartbeats 1000000 in
theorem rtotal_rd (k g : Int) (ls : Lv) (hl : ls.length ≤ 60) (ht : tot ls ≤ 4611686018427387904) (w : World) (A : Option Addr) (c : Nat) (h : Reads w w.heap.size (.slice A ls.length c) ls) :
    Calls Try.prog 27 #[hv k g (.slice A ls.length c)] w fun e w' => e = .returned (.int .u64 (tot ls : Int)) ∧ Below w.heap.size w w' := by
  obtain ⟨N, hN⟩ : ∃ N, ls.length = N := ⟨_, rfl⟩
  have HL := Lib.hid h
  rw [hN] at HL hl ⊢
  have HN := Lib.hid hN
  have HT := Lib.hid ht
  clear h hN ht
  go_enter Try.func27, Try.ntmps27
  go_wp2
  go_loop [3, 4] (fun s i => ∃ j : Nat, i = .int .i64 (j : Int) ∧ j ≤ N ∧ s = .int .u64 (totFrom 0 (ls.take j) : Nat)) (fun _ i => N - (intOf i).toNat)
  case atStart => exact ⟨0, rfl, Nat.zero_le _, rfl⟩
  case round =>
    obtain ⟨j, rfl, hj, rfl⟩ := hrel
    by_cases hlt : j < N
    · have hjl : j < ls.length := by rw [HN.out]; exact hlt
      obtain ⟨b, off, rfl, hb, -, hc⟩ := HL.out.at (by omega)
      obtain ⟨Ai, ci, q0, -, -, -⟩ := hc j hjl
      have hstep := totFrom_take hjl
      have hle := totFrom_le ls (j + 1)
      obtain ⟨s, hs⟩ : ∃ s, totFrom 0 (ls.take j) = s := ⟨_, rfl⟩
      obtain ⟨d, hd⟩ : ∃ d, ls[j].length * 2 ^ j = d := ⟨_, rfl⟩
      rw [hs, hd] at hstep
      rw [hs]
      generalize ls[j].length = m at *
      have hsd : s + d ≤ 4611686018427387904 := by have := HT.out; omega
      have hval := wsum hd hsd
      rw [← hstep] at hval
      have HVAL := Lib.hid hval
      clear hc hstep hle hs hd hval hsd hjl
      go_wp2
      refine ⟨⟨j + 1, by go_num, hlt, ?_⟩, by simp [intOf]; omega⟩
      rw [HVAL.out]
    · have e : j = N := by omega
      subst e
      have ef : totFrom 0 (ls.take j) = tot ls := by rw [← HN.out, List.take_length, tot_eq]
      rw [ef]
      clear ef
      go_wp2
      go_ret
      exact ⟨rfl, (Below.refl _ w).alloc (Nat.le_refl _) _⟩

theorem rtotal_any (k g : Int) (ls : Lv) (hl : ls.length ≤ 60) (ht : tot ls ≤ 4611686018427387904) (w : World) (A : Option Addr) (c : Nat) (h : Levs w w.heap.size (.slice A ls.length c) ls) :
    Calls Try.prog 27 #[hv k g (.slice A ls.length c)] w fun e w' => e = .returned (.int .u64 (tot ls : Int)) ∧ Below w.heap.size w w' := rtotal_rd k g ls hl ht w A c h.reads

end Go.Proofs.Ytoplbjanemjebaa
