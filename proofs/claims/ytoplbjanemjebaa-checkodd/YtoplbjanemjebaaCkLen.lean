/- The contracts of bits.Len64, check.Bound, and the document's digits and Bound. -/
import Derived.Lib.Strings
import Derived.Lib.Small
import Derived.Lib.Slices
import Derived.Lib.Walk
import Derived.Lib.BitFns
import Derived.Test.YtoplbjanemjebaaCkA
namespace Go.Proofs.Ytoplbjanemjebaa
open Go.RowKit Go.Shelf Go.Proofs.Rw Go.Proofs.Lh

theorem rdigits_any : ∀ (m n : Nat), n < 2 ^ m → m ≤ 64 → ∀ (w : World), Calls Try.prog 29 #[.int .u64 (n : Int)] w fun e w' => e = .returned (.int .i64 (digs n : Int)) ∧ w = w'
  | m, 0, _, _, w => by
    rw [digs_zero]
    go_enter Try.func29, Try.ntmps29
    go_wp2
    go_ret
    exact ⟨rfl, rfl⟩
  | 0, n + 1, h, _, w => by simp at h
  | m + 1, n + 1, h, hm, w => by
    have h2 : (n + 1) / 2 < 2 ^ m := by rw [Nat.pow_succ] at h; omega
    have ih := fun W => rdigits_any m ((n + 1) / 2) h2 (by omega) W
    have hd := digs_pos (n := n + 1) (by omega)
    have hle := digs_le m ((n + 1) / 2) h2
    have hb : (((n + 1 : Nat) : Int) == 0) = false := by rw [beq_eq_false_iff_ne]; omega
    have hn : n + 1 < 18446744073709551616 := by
      have : 2 ^ (m + 1) ≤ 2 ^ 64 := Nat.pow_le_pow_right (by omega) hm
      omega
    rw [hd]
    generalize hx : n + 1 = x at *
    obtain ⟨q, hq⟩ : ∃ q, x / 2 = q := ⟨_, rfl⟩
    have hq2 : (x : Int) / 2 = (q : Int) := by omega
    rw [hq] at ih hle ⊢
    generalize digs q = d at *
    have IH := Lib.hid ih
    clear ih h h2 hd hq hx
    have hd64 : (d : Int) ≤ 64 := by omega
    go_enter Try.func29, Try.ntmps29
    go_wp2_with (go_at_call 29; (with_reducible refine (IH.out _).mono ?_); rintro e wn ⟨rfl, rfl⟩)
    go_ret
    exact ⟨ret_i (by omega), rfl⟩

theorem digs_shr : ∀ (a n : Nat), 2 ^ a ≤ n → digs n = a + digs (n / 2 ^ a)
  | 0, n, _ => by simp
  | a + 1, n, h => by
    rw [Nat.pow_succ] at h ⊢
    rw [digs_pos (by have := Nat.two_pow_pos a; omega), digs_shr a (n / 2) (by omega), Nat.div_div_eq_div_mul, Nat.mul_comm 2 (2 ^ a)]
    omega

set_option maxRecDepth 100000 in
/-- The table, as the program has it. -/
theorem fold_tab : (⟨((List.append [0, 1, 2, 2, 3, 3, 3, 3, 4, 4, 4, 4, 4, 4, 4, 4, 5, 5, 5, 5, 5, 5, 5, 5, 5, 5, 5, 5, 5, 5, 5, 5, 6, 6, 6, 6, 6, 6, 6, 6, 6, 6, 6, 6, 6, 6, 6, 6, 6, 6, 6, 6, 6, 6, 6, 6, 6, 6, 6, 6, 6, 6, 6, 6] [7, 7, 7, 7, 7, 7, 7, 7, 7, 7, 7, 7, 7, 7, 7, 7, 7, 7, 7, 7, 7, 7, 7, 7, 7, 7, 7, 7, 7, 7, 7, 7, 7, 7, 7, 7, 7, 7, 7, 7, 7, 7, 7, 7, 7, 7, 7, 7, 7, 7, 7, 7, 7, 7, 7, 7, 7, 7, 7, 7, 7, 7, 7, 7]).append (List.append [8, 8, 8, 8, 8, 8, 8, 8, 8, 8, 8, 8, 8, 8, 8, 8, 8, 8, 8, 8, 8, 8, 8, 8, 8, 8, 8, 8, 8, 8, 8, 8, 8, 8, 8, 8, 8, 8, 8, 8, 8, 8, 8, 8, 8, 8, 8, 8, 8, 8, 8, 8, 8, 8, 8, 8, 8, 8, 8, 8, 8, 8, 8, 8] [8, 8, 8, 8, 8, 8, 8, 8, 8, 8, 8, 8, 8, 8, 8, 8, 8, 8, 8, 8, 8, 8, 8, 8, 8, 8, 8, 8, 8, 8, 8, 8, 8, 8, 8, 8, 8, 8, 8, 8, 8, 8, 8, 8, 8, 8, 8, 8, 8, 8, 8, 8, 8, 8, 8, 8, 8, 8, 8, 8, 8, 8, 8, 8])).toArray⟩ : ByteArray) = Lib.len8tab := by decide +kernel

theorem bitLen_digs : ∀ (f n : Nat), n < 2 ^ f → Lib.bitLenAux f n = digs n
  | 0, n, h => by
    rw [show n = 0 by simp at h; omega, digs_zero]
    rfl
  | f + 1, n, h => by
    rw [Lib.bitLenAux]
    by_cases h0 : n = 0
    · rw [if_pos h0, h0, digs_zero]
    · rw [if_neg h0, digs_pos h0, bitLen_digs f (n / 2) (by rw [Nat.pow_succ] at h; omega)]
theorem len8_digs (y : Int) (n : Nat) (h : y = (n : Int)) (hn : n < 256) : Lib.len8 y = (digs n : Int) := by
  rw [h, Lib.len8_of _ (by omega) (by omega), Int.toNat_natCast]
  unfold Lib.bitLen
  rw [bitLen_digs 64 n (by omega)]

theorem digs_cut (x : Int) (a : Nat) (p : Nat) (hp : 2 ^ a = p) (y : Int) (hy : x / (p : Int) = y) (h : (p : Int) ≤ x) : digs x.toNat = a + digs y.toNat := by
  obtain ⟨m, rfl⟩ : ∃ m : Nat, x = (m : Int) := ⟨x.toNat, by omega⟩
  rw [Int.toNat_natCast, digs_shr a m (by omega), hp, ← hy, ← Int.natCast_ediv, Int.toNat_natCast]
theorem wrap_fin (K : Int) (k q : Nat) (hk : K = k) (h : k ≤ 56) (hq : q ≤ 8) : wrap64 (K + wrap64 (q : Int)) = ((k + q : Nat) : Int) := by
  unfold wrap64
  omega
theorem wrap_fin0 (q : Nat) (hq : q ≤ 8) : wrap64 (wrap64 (q : Int)) = (q : Int) ∧ wrap64 (q : Int) = (q : Int) := by
  unfold wrap64
  omega
theorem len_fin (u : Int) (h0 : 0 ≤ u) (h1 : u ≤ 255) : Lib.len8 u = (digs u.toNat : Int) ∧ digs u.toNat ≤ 8 := ⟨len8_digs u u.toNat (by omega) (by omega), digs_le 8 _ (by omega)⟩

set_option maxHeartbeats 4000000 in
set_option maxRecDepth 100000 in
theorem len64I (x : Int) (h0 : 0 ≤ x) (h1 : x ≤ 18446744073709551615) (w : World) :
    Calls Try.prog 28 #[.int .u64 x] w fun e w' => e = .returned (.int .i64 (digs x.toNat : Int)) ∧ w = w' := by
  by_cases cy : 4294967296 ≤ x
  · obtain ⟨y, hy⟩ : ∃ y, x / 4294967296 = y := ⟨_, rfl⟩
    have ay : 0 ≤ y := by omega
    have ty : y ≤ 4294967295 := by omega
    have dy := digs_cut x 32 4294967296 (by decide) y hy cy
    by_cases cz : 65536 ≤ y
    · obtain ⟨z, hz⟩ : ∃ z, y / 65536 = z := ⟨_, rfl⟩
      have az : 0 ≤ z := by omega
      have tz : z ≤ 65535 := by omega
      have dz := digs_cut y 16 65536 (by decide) z hz cz
      by_cases cu : 256 ≤ z
      · obtain ⟨u, hu⟩ : ∃ u, z / 256 = u := ⟨_, rfl⟩
        have au : 0 ≤ u := by omega
        have tu : u ≤ 255 := by omega
        have du := digs_cut z 8 256 (by decide) u hu cu
        have i0 : 0 ≤ u := by omega
        have i1 : u ≤ 255 := by omega
        obtain ⟨l1, l2⟩ := len_fin u i0 i1
        have hd : digs x.toNat = 56 + digs u.toNat := by omega
        have HD := Lib.hid hd
        have HL := Lib.hid l1
        have HL2 := Lib.hid l2
        clear hd l1 l2 dy dz du
        rw [HD.out]
        generalize digs u.toNat = q at *
        go_enter Try.func28, Try.ntmps28
        rw [fold_tab]
        go_wp2
        go_ret
        refine ⟨ret_i ?_, rfl⟩
        have a1 := HL.out
        have a2 := HL2.out
        rw [a1]
        first
          | exact wrap_fin _ _ q rfl (by decide) a2
          | exact (wrap_fin0 q a2).1
          | exact (wrap_fin0 q a2).2
      · have tu : z ≤ 255 := by omega
        have i0 : 0 ≤ z := by omega
        have i1 : z ≤ 255 := by omega
        obtain ⟨l1, l2⟩ := len_fin z i0 i1
        have hd : digs x.toNat = 48 + digs z.toNat := by omega
        have HD := Lib.hid hd
        have HL := Lib.hid l1
        have HL2 := Lib.hid l2
        clear hd l1 l2 dy dz
        rw [HD.out]
        generalize digs z.toNat = q at *
        go_enter Try.func28, Try.ntmps28
        rw [fold_tab]
        go_wp2
        go_ret
        refine ⟨ret_i ?_, rfl⟩
        have a1 := HL.out
        have a2 := HL2.out
        rw [a1]
        first
          | exact wrap_fin _ _ q rfl (by decide) a2
          | exact (wrap_fin0 q a2).1
          | exact (wrap_fin0 q a2).2
    · have tz : y ≤ 65535 := by omega
      by_cases cu : 256 ≤ y
      · obtain ⟨u, hu⟩ : ∃ u, y / 256 = u := ⟨_, rfl⟩
        have au : 0 ≤ u := by omega
        have tu : u ≤ 255 := by omega
        have du := digs_cut y 8 256 (by decide) u hu cu
        have i0 : 0 ≤ u := by omega
        have i1 : u ≤ 255 := by omega
        obtain ⟨l1, l2⟩ := len_fin u i0 i1
        have hd : digs x.toNat = 40 + digs u.toNat := by omega
        have HD := Lib.hid hd
        have HL := Lib.hid l1
        have HL2 := Lib.hid l2
        clear hd l1 l2 dy du
        rw [HD.out]
        generalize digs u.toNat = q at *
        go_enter Try.func28, Try.ntmps28
        rw [fold_tab]
        go_wp2
        go_ret
        refine ⟨ret_i ?_, rfl⟩
        have a1 := HL.out
        have a2 := HL2.out
        rw [a1]
        first
          | exact wrap_fin _ _ q rfl (by decide) a2
          | exact (wrap_fin0 q a2).1
          | exact (wrap_fin0 q a2).2
      · have tu : y ≤ 255 := by omega
        have i0 : 0 ≤ y := by omega
        have i1 : y ≤ 255 := by omega
        obtain ⟨l1, l2⟩ := len_fin y i0 i1
        have hd : digs x.toNat = 32 + digs y.toNat := by omega
        have HD := Lib.hid hd
        have HL := Lib.hid l1
        have HL2 := Lib.hid l2
        clear hd l1 l2 dy
        rw [HD.out]
        generalize digs y.toNat = q at *
        go_enter Try.func28, Try.ntmps28
        rw [fold_tab]
        go_wp2
        go_ret
        refine ⟨ret_i ?_, rfl⟩
        have a1 := HL.out
        have a2 := HL2.out
        rw [a1]
        first
          | exact wrap_fin _ _ q rfl (by decide) a2
          | exact (wrap_fin0 q a2).1
          | exact (wrap_fin0 q a2).2
  · have ty : x ≤ 4294967295 := by omega
    by_cases cz : 65536 ≤ x
    · obtain ⟨z, hz⟩ : ∃ z, x / 65536 = z := ⟨_, rfl⟩
      have az : 0 ≤ z := by omega
      have tz : z ≤ 65535 := by omega
      have dz := digs_cut x 16 65536 (by decide) z hz cz
      by_cases cu : 256 ≤ z
      · obtain ⟨u, hu⟩ : ∃ u, z / 256 = u := ⟨_, rfl⟩
        have au : 0 ≤ u := by omega
        have tu : u ≤ 255 := by omega
        have du := digs_cut z 8 256 (by decide) u hu cu
        have i0 : 0 ≤ u := by omega
        have i1 : u ≤ 255 := by omega
        obtain ⟨l1, l2⟩ := len_fin u i0 i1
        have hd : digs x.toNat = 24 + digs u.toNat := by omega
        have HD := Lib.hid hd
        have HL := Lib.hid l1
        have HL2 := Lib.hid l2
        clear hd l1 l2 dz du
        rw [HD.out]
        generalize digs u.toNat = q at *
        go_enter Try.func28, Try.ntmps28
        rw [fold_tab]
        go_wp2
        go_ret
        refine ⟨ret_i ?_, rfl⟩
        have a1 := HL.out
        have a2 := HL2.out
        rw [a1]
        first
          | exact wrap_fin _ _ q rfl (by decide) a2
          | exact (wrap_fin0 q a2).1
          | exact (wrap_fin0 q a2).2
      · have tu : z ≤ 255 := by omega
        have i0 : 0 ≤ z := by omega
        have i1 : z ≤ 255 := by omega
        obtain ⟨l1, l2⟩ := len_fin z i0 i1
        have hd : digs x.toNat = 16 + digs z.toNat := by omega
        have HD := Lib.hid hd
        have HL := Lib.hid l1
        have HL2 := Lib.hid l2
        clear hd l1 l2 dz
        rw [HD.out]
        generalize digs z.toNat = q at *
        go_enter Try.func28, Try.ntmps28
        rw [fold_tab]
        go_wp2
        go_ret
        refine ⟨ret_i ?_, rfl⟩
        have a1 := HL.out
        have a2 := HL2.out
        rw [a1]
        first
          | exact wrap_fin _ _ q rfl (by decide) a2
          | exact (wrap_fin0 q a2).1
          | exact (wrap_fin0 q a2).2
    · have tz : x ≤ 65535 := by omega
      by_cases cu : 256 ≤ x
      · obtain ⟨u, hu⟩ : ∃ u, x / 256 = u := ⟨_, rfl⟩
        have au : 0 ≤ u := by omega
        have tu : u ≤ 255 := by omega
        have du := digs_cut x 8 256 (by decide) u hu cu
        have i0 : 0 ≤ u := by omega
        have i1 : u ≤ 255 := by omega
        obtain ⟨l1, l2⟩ := len_fin u i0 i1
        have hd : digs x.toNat = 8 + digs u.toNat := by omega
        have HD := Lib.hid hd
        have HL := Lib.hid l1
        have HL2 := Lib.hid l2
        clear hd l1 l2 du
        rw [HD.out]
        generalize digs u.toNat = q at *
        go_enter Try.func28, Try.ntmps28
        rw [fold_tab]
        go_wp2
        go_ret
        refine ⟨ret_i ?_, rfl⟩
        have a1 := HL.out
        have a2 := HL2.out
        rw [a1]
        first
          | exact wrap_fin _ _ q rfl (by decide) a2
          | exact (wrap_fin0 q a2).1
          | exact (wrap_fin0 q a2).2
      · have tu : x ≤ 255 := by omega
        have i0 : 0 ≤ x := by omega
        have i1 : x ≤ 255 := by omega
        obtain ⟨l1, l2⟩ := len_fin x i0 i1
        have hd : digs x.toNat = 0 + digs x.toNat := by rw [Nat.zero_add]
        have HD := Lib.hid hd
        have HL := Lib.hid l1
        have HL2 := Lib.hid l2
        clear hd l1 l2 
        rw [HD.out]
        generalize digs x.toNat = q at *
        go_enter Try.func28, Try.ntmps28
        rw [fold_tab]
        go_wp2
        go_ret
        refine ⟨ret_i ?_, rfl⟩
        have a1 := HL.out
        have a2 := HL2.out
        rw [a1]
        first
          | exact wrap_fin _ _ q rfl (by decide) a2
          | exact (wrap_fin0 q a2).1
          | exact (wrap_fin0 q a2).2

theorem len64_any (n : Nat) (hn : n < 18446744073709551616) (w : World) :
    Calls Try.prog 28 #[.int .u64 (n : Int)] w fun e w' => e = .returned (.int .i64 (digs n : Int)) ∧ w = w' := by
  have := len64I (n : Int) (by omega) (by omega) w
  rwa [Int.toNat_natCast] at this

theorem bound_le (k g : Int) (n : Nat) (hn : n < 18446744073709551616) : boundN k g n ≤ 1000000 := by
  unfold boundN
  split
  · have h1 := digs_le 64 n (by omega)
    have : (k.toNat + 1) * (digs n + g.toNat) ≤ 1025 * 68 := Nat.mul_le_mul (by omega) (by omega)
    omega
  · omega

theorem ret_mul {k g : Int} {d n : Nat} (hk : 2 ≤ k ∧ k ≤ 1024) (hg : 0 ≤ g ∧ g ≤ 4) (hn : n ≠ 0) (hd : digs n = d) : (k + 1) * ((d : Int) + g) = (boundN k g n : Int) := by
  unfold boundN
  rw [if_pos ⟨hn, hk, hg⟩, hd]
  rw [Int.natCast_mul, Int.natCast_add, Int.natCast_add]
  rw [show ((k.toNat : Nat) : Int) = k by omega, show ((g.toNat : Nat) : Int) = g by omega]
  rfl
theorem bound_no {k g : Int} {n : Nat} (h : n = 0 ∨ okKG k g = false) : boundN k g n = 0 := by
  unfold boundN
  rw [if_neg]
  rintro ⟨h1, h2⟩
  rcases h with h | h
  · exact h1 h
  · unfold okKG at h
    rw [decide_eq_false_iff_not] at h
    exact h h2

set_option maxHeartbeats 1000000 in
theorem bound_any (k g : Int) (n : Nat) (hn : n < 18446744073709551616) (w : World) :
    Calls Try.prog 15 #[.int .i64 k, .int .i64 g, .int .u64 (n : Int)] w fun e w' => e = .returned (.int .i64 (boundN k g n : Int)) ∧ w = w' := by
  have hm := fun W => ckMay_any k g W
  by_cases h0 : n = 0
  · subst h0
    rw [bound_no (.inl rfl)]
    clear hm
    go_enter Try.func15, Try.ntmps15
    go_wp2
    go_ret
    exact ⟨rfl, rfl⟩
  · have hz : ((n : Int) == 0) = false := by rw [beq_eq_false_iff_ne]; omega
    cases hq : okKG k g with
    | false =>
      rw [bound_no (.inr hq)]
      simp only [hq] at hm
      have HM := Lib.hid hm
      clear hm hq
      go_enter Try.func15, Try.ntmps15
      go_wp2_with (go_at_call 22; (with_reducible refine (HM.out _).mono ?_); rintro e wn ⟨rfl, rfl⟩)
      go_ret
      exact ⟨rfl, rfl⟩
    | true =>
      simp only [hq] at hm
      obtain ⟨⟨k0, k1⟩, g0, g1⟩ := of_decide_eq_true hq
      have hle := digs_le 64 n (by omega)
      have hl := fun W => len64_any n hn W
      obtain ⟨d, hd⟩ : ∃ d, digs n = d := ⟨_, rfl⟩
      have hr := ret_mul (n := n) ⟨k0, k1⟩ ⟨g0, g1⟩ h0 hd
      have hbl := bound_le k g n hn
      rw [hd] at hle
      simp only [hd] at hl
      obtain ⟨r, hrr⟩ : ∃ r, boundN k g n = r := ⟨_, rfl⟩
      rw [hrr] at hbl hr ⊢
      have HM := Lib.hid hm
      have HLN := Lib.hid hl
      clear hm hq hd hl hrr
      obtain ⟨k', hk'⟩ : ∃ k', k + 1 = k' := ⟨_, rfl⟩
      obtain ⟨g', hg'⟩ : ∃ g', (d : Int) + g = g' := ⟨_, rfl⟩
      rw [hk', hg'] at hr
      have e1 : (r : Int) ≤ 1000000 := by omega
      have e2 : g' ≤ 1000 := by omega
      have e3 : 0 ≤ g' := by omega
      go_enter Try.func15, Try.ntmps15
      go_wp2_with (first
        | (go_at_call 22; (with_reducible refine (HM.out _).mono ?_); rintro e wn ⟨rfl, rfl⟩)
        | (go_at_call 28; (with_reducible refine (HLN.out _).mono ?_); rintro e wn ⟨rfl, rfl⟩))
      go_ret
      exact ⟨rfl, rfl⟩

set_option maxHeartbeats 1000000 in
theorem rbound_any (k g : Int) (n : Nat) (hn : n < 18446744073709551616) (w : World) :
    Calls Try.prog 16 #[.int .i64 k, .int .i64 g, .int .u64 (n : Int)] w fun e w' => e = .returned (.int .i64 (boundN k g n : Int)) ∧ w = w' := by
  have hm := fun W => rmay9_any k W
  by_cases h0 : n = 0
  · subst h0
    rw [bound_no (.inl rfl)]
    clear hm
    go_enter Try.func16, Try.ntmps16
    go_wp2
    go_ret
    exact ⟨rfl, rfl⟩
  · have hz : ((n : Int) == 0) = false := by rw [beq_eq_false_iff_ne]; omega
    by_cases hk : 2 ≤ k ∧ k ≤ 1024
    · rw [decide_eq_true hk] at hm
      by_cases g0 : 0 ≤ g
      · by_cases g1 : g ≤ 4
        · have hle := digs_le 64 n (by omega)
          have hl := fun W => rdigits_any 64 n (by omega) (Nat.le_refl _) W
          obtain ⟨d, hd⟩ : ∃ d, digs n = d := ⟨_, rfl⟩
          have hr := ret_mul (n := n) hk ⟨g0, g1⟩ h0 hd
          have hbl := bound_le k g n hn
          rw [hd] at hle
          simp only [hd] at hl
          obtain ⟨r, hrr⟩ : ∃ r, boundN k g n = r := ⟨_, rfl⟩
          rw [hrr] at hbl hr ⊢
          have HM := Lib.hid hm
          have HLN := Lib.hid hl
          clear hm hd hl hrr
          obtain ⟨k0, k1⟩ := hk
          obtain ⟨k', hk'⟩ : ∃ k', k + 1 = k' := ⟨_, rfl⟩
          obtain ⟨g', hg'⟩ : ∃ g', (d : Int) + g = g' := ⟨_, rfl⟩
          rw [hk', hg'] at hr
          have e1 : (r : Int) ≤ 1000000 := by omega
          have e2 : g' ≤ 1000 := by omega
          have e3 : 0 ≤ g' := by omega
          go_enter Try.func16, Try.ntmps16
          go_wp2_with (first
            | (go_at_call 24; (with_reducible refine (HM.out _).mono ?_); rintro e wn ⟨rfl, rfl⟩)
            | (go_at_call 29; (with_reducible refine (HLN.out _).mono ?_); rintro e wn ⟨rfl, rfl⟩))
          go_ret
          exact ⟨rfl, rfl⟩
        · rw [bound_no (.inr (by unfold okKG; rw [decide_eq_false_iff_not]; omega))]
          have HM := Lib.hid hm
          clear hm
          go_enter Try.func16, Try.ntmps16
          go_wp2_with (go_at_call 24; (with_reducible refine (HM.out _).mono ?_); rintro e wn ⟨rfl, rfl⟩)
          go_ret
          exact ⟨rfl, rfl⟩
      · rw [bound_no (.inr (by unfold okKG; rw [decide_eq_false_iff_not]; omega))]
        have HM := Lib.hid hm
        clear hm
        go_enter Try.func16, Try.ntmps16
        go_wp2_with (go_at_call 24; (with_reducible refine (HM.out _).mono ?_); rintro e wn ⟨rfl, rfl⟩)
        go_ret
        exact ⟨rfl, rfl⟩
    · rw [decide_eq_false hk] at hm
      rw [bound_no (.inr (by unfold okKG; rw [decide_eq_false_iff_not]; exact fun h => hk h.1))]
      have HM := Lib.hid hm
      clear hm hk
      go_enter Try.func16, Try.ntmps16
      go_wp2_with (go_at_call 24; (with_reducible refine (HM.out _).mono ?_); rintro e wn ⟨rfl, rfl⟩)
      go_ret
      exact ⟨rfl, rfl⟩

end Go.Proofs.Ytoplbjanemjebaa
