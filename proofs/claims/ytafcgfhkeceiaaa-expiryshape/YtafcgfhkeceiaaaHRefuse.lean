/- The contract of hist.refusal. -/
import Derived.Test.YtafcgfhkeceiaaaHLevels
namespace Go.Proofs.Ytafcgfhkeceiaaa
open Go.RowKit Go.Shelf Go.Proofs.Rw Go.Proofs.Lh Go.Proofs.Rn

theorem box3 {W : World} {b : Nat} {x y z : Value} {t : TypeId} (h : W.heap[b]? = some (.cells #[x, y, z] t)) : W.cell? ⟨b, 0, none⟩ = some x ∧ W.cell? ⟨b, 1, none⟩ = some y ∧ W.cell? ⟨b, 2, none⟩ = some z := by simp [World.cell?, h]

set_option maxHeartbeats 2000000 in
theorem refusal_any (k g : Int) (hk : may k = true) (ls : Lv) (hl : ls.length ≤ 60) (ht : tot ls ≤ 4503599627370496) (h0 : (lev ls 0).length ≤ 1000000) (t n : Nat) (hn : n < 18446744073709551616) (w : World) (A : Option Addr) (c : Nat) (h : Levs w w.heap.size (.slice A ls.length c) ls) :
    Calls Try.prog 29 #[hv k g (.slice A ls.length c), .int .u64 t, .int .u64 n] w fun e w' => e = .returned (.int .i64 (code ls t n : Int)) ∧ Below w.heap.size w w' := by
  have hb0 : Below w.heap.size w (w.alloc (.cells #[.int .i64 k, .int .i64 g, .slice A ls.length c] 31)) := (Below.refl _ w).alloc (Nat.le_refl _) _
  have hla := last_any k g ls _ _ (Nat.le_refl _) A c (h.grow hb0) h0
  have hto := fun (W : World) (hW : Below w.heap.size w W) => total_any k g ls hl (by omega) W A c (h.grow hW)
  have hm := fun W => mayBe_any k W
  rw [hk] at hm
  have HLA := Lib.hid hla
  have HTO := Lib.hid hto
  have HM := Lib.hid hm
  obtain ⟨bx, hbx⟩ : ∃ o, (.cells #[.int .i64 k, .int .i64 g, .slice A ls.length c] 31 : Obj) = o := ⟨_, rfl⟩
  have hp : (w.alloc (.cells #[.int .i64 k, .int .i64 g, .slice A ls.length c] 31)).heap[w.heap.size]? = some (.cells #[.int .i64 k, .int .i64 g, .slice A ls.length c] 31) := heap_alloc_new w _
  have HP := Lib.hid hp
  have HB0 := Lib.hid hb0
  unfold code
  obtain ⟨L, hL⟩ : ∃ L, (lastOf ls).getD 0 = L := ⟨_, rfl⟩
  obtain ⟨b, hb⟩ : ∃ b, (lastOf ls).isSome = b := ⟨_, rfl⟩
  obtain ⟨T, hT⟩ : ∃ T, tot ls = T := ⟨_, rfl⟩
  unfold lastV at HLA
  rw [hL, hb] at HLA
  rw [hT] at HTO ht
  rw [hL, hT]
  clear hla hto hm hp hb0 hL hb hT hk h h0 hbx bx
  obtain ⟨C, hC⟩ : ∃ C, (if n = 0 then 1 else if 9223372036854775807 < t ∨ t < L then 6 else if 4503599627370496 < n ∨ 4503599627370496 < n + T then 5 else 0) = C := ⟨_, rfl⟩
  rw [hC]
  have HC := Lib.hid hC
  clear hC
  go_enter Try.func29, Try.ntmps29
  go_upto_region 2 with (go_at_call 37; refine HLA.out.mono ?_; rintro e w1 ⟨rfl, hb1⟩; have HB1 := Lib.hid hb1; clear hb1)
  have hbx := (HB1.out.block w.heap.size (by simp)).trans HP.out
  obtain ⟨q0, q1, q2⟩ := box3 hbx
  have hlt := lt_of hbx
  have HBW := Lib.hid (thn HB0.out HB1.out)
  clear HLA HB1 HP HB0 hbx
  by_cases hn0 : n = 0
  · have hc : C = 1 := by rw [← HC.out, if_pos hn0]
    subst hc hn0
    go_wp2
    go_ret
    exact ⟨by simp, HBW.out⟩
  have d0 : ((n : Int) == 0) = false := by rw [beq_eq_false_iff_ne]; omega
  by_cases ht1 : 9223372036854775807 < t
  · have hc : C = 6 := by rw [← HC.out, if_neg hn0, if_pos (.inl ht1)]
    subst hc
    clear hn0
    have d1 : decide ((9223372036854775807 : Int) < t) = true := by simp; omega
    go_wp2
    go_ret
    exact ⟨by simp, HBW.out⟩
  have d1 : decide ((9223372036854775807 : Int) < t) = false := by simp; omega
  by_cases ht2 : t < L
  · have hc : C = 6 := by rw [← HC.out, if_neg hn0, if_pos (.inr ht2)]
    subst hc
    clear hn0 ht1
    have d2 : decide ((t : Int) < L) = true := by simp; omega
    go_wp2
    go_ret
    exact ⟨by simp, HBW.out⟩
  have d2 : decide ((t : Int) < L) = false := by simp; omega
  by_cases hn1 : 4503599627370496 < n
  · have hc : C = 5 := by rw [← HC.out, if_neg hn0, if_neg (by omega), if_pos (.inl hn1)]
    subst hc
    clear hn0 ht1
    have d3 : decide ((4503599627370496 : Int) < n) = true := by simp; omega
    go_wp2
    go_ret
    exact ⟨by simp, HBW.out⟩
  have d3 : decide ((4503599627370496 : Int) < n) = false := by simp; omega
  have hsub : (4503599627370496 : Int) - n = ((4503599627370496 - n : Nat) : Int) := by omega
  have b0 : (0 : Int) ≤ 4503599627370496 - (n : Int) := by omega
  have b1 : (4503599627370496 : Int) - n ≤ 18446744073709551615 := by omega
  by_cases hn2 : 4503599627370496 < n + T
  · have hc : C = 5 := by rw [← HC.out, if_neg hn0, if_neg (by omega), if_pos (.inr hn2)]
    subst hc
    have d4 : decide ((4503599627370496 : Int) - n < T) = true := by simp; omega
    clear hn0 ht1 hsub
    go_wp2_with (go_at_call 22; refine (HTO.out _ HBW.out).mono ?_; rintro e w2 ⟨rfl, hb2⟩; have HB2 := Lib.hid hb2; clear hb2)
    go_ret
    exact ⟨by simp, thn HBW.out HB2.out⟩
  · have hc : C = 0 := by rw [← HC.out, if_neg hn0, if_neg (by omega), if_neg (by omega)]
    subst hc
    have d4 : decide ((4503599627370496 : Int) - n < T) = false := by simp; omega
    clear hn0 ht1 hsub
    go_wp2_with (first
      | (go_at_call 22; refine (HTO.out _ HBW.out).mono ?_; rintro e w2 ⟨rfl, hb2⟩; have HB2 := Lib.hid hb2; have q0' := (hb2.cell (p := ⟨w.heap.size, 0, none⟩) hlt).trans q0; have hlt2 := Nat.lt_of_lt_of_le hlt hb2.size; clear hb2)
      | (go_at_call 38; (with_reducible refine (HM.out _).mono ?_); rintro e wn ⟨rfl, rfl⟩))
    go_ret
    exact ⟨by simp, thn HBW.out HB2.out⟩

end Go.Proofs.Ytafcgfhkeceiaaa
