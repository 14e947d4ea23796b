/- skylightlaw08.awake: one unit at each of four ticks. -/
import Derived.Test.YthmbmiikhghaoaaEsExact
namespace Go.Proofs.Lh
open Go.Proofs.Lm (Sp)
theorem four1 : addW 2 [] 1 1 = [[(1, 1)]] := by
  unfold addW addL
  rw [newL_ne _ _ (by simp), show wentL (List.replicate 1 (1, 1)) (rm 2 0) = [] by decide, newL_nil]
  decide
theorem four2 : addW 2 [[(1, 1)]] 2 1 = [[(1, 1), (2, 2)]] := by
  unfold addW addL addL
  rw [show wentL ([(1, 1)] ++ List.replicate 1 (2, 2)) (rm 2 0) = [] by decide, newL_nil]
  decide
theorem four3 : addW 2 [[(1, 1), (2, 2)]] 3 1 = [[(1, 1), (2, 2), (3, 3)]] := by
  unfold addW addL addL
  rw [show wentL ([(1, 1), (2, 2)] ++ List.replicate 1 (3, 3)) (rm 2 0) = [] by decide, newL_nil]
  decide
theorem four4 : addW 2 [[(1, 1), (2, 2), (3, 3)]] 4 1 = [[(3, 3), (4, 4)], [(1, 2)]] := by
  unfold addW addL addL
  rw [show wentL ([(1, 1), (2, 2), (3, 3)] ++ List.replicate 1 (4, 4)) (rm 2 0) = [(1, 2)] by decide, newL_ne _ _ (by simp), show wentL [(1, 2)] (rm 2 (0 + 1)) = [] by decide, newL_nil]
  decide
def F4 : List Sp := [(1, 1), (1, 1), (1, 1), (1, 1)]
def H4 : Lv := [[(3, 3), (4, 4)], [(1, 2)]]
theorem step_to {k : Nat} {t : Nat} {ls ls' : Lv} {d : Sp} (h : code ls (t + d.1 % 1000) d.2 = 0) (e : addW k ls (t + d.1 % 1000) d.2 = ls') : stepP k (t, ls) d = (t + d.1 % 1000, ls') := by
  unfold stepP
  rw [if_pos h, e]
theorem playF4 : play 2 F4 4 = (4, H4) := by
  unfold play F4
  simp only [List.take_succ_cons, List.take_zero, List.foldl_cons, List.foldl_nil]
  rw [show stepP 2 (0, []) (1, 1) = (1, [[(1, 1)]]) from step_to (by decide) four1]
  rw [show stepP 2 (1, [[(1, 1)]]) (1, 1) = (2, [[(1, 1), (2, 2)]]) from step_to (by decide) four2]
  rw [show stepP 2 (2, [[(1, 1), (2, 2)]]) (1, 1) = (3, [[(1, 1), (2, 2), (3, 3)]]) from step_to (by decide) four3]
  exact step_to (by decide) four4
end Go.Proofs.Lh
namespace Go.Proofs.Ythmbmiikhghaoaa
open Go.RowKit Go.Shelf Go.Proofs.Rw Go.Proofs.Lh

theorem lit_four (W : World) (T : TypeId) (a b c d e f g h : Nat) : Lies spL (W.alloc (.cells #[.int .u64 a, .int .u64 b, .int .u64 c, .int .u64 d, .int .u64 e, .int .u64 f, .int .u64 g, .int .u64 h] T)) (W.alloc (.cells #[.int .u64 a, .int .u64 b, .int .u64 c, .int .u64 d, .int .u64 e, .int .u64 f, .int .u64 g, .int .u64 h] T)).heap.size (.slice (some ⟨W.heap.size, 0, none⟩) 4 4) [(a, b), (c, d), (e, f), (g, h)] := by
  refine ⟨_, 4, rfl, by simp, by unfold maxLen; omega, .inr ⟨W.heap.size, 0, by simp, rfl, fun j u hu => ?_⟩⟩
  rw [World.cell?_alloc_at _ _ _ _ rfl]
  simp only [Lay.cells, spL, List.flatMap_cons, List.flatMap_nil, List.append_nil] at hu
  simpa using hu

theorem lev4 (i : Nat) : (lev H4 i).length ≤ 1000000 := by
  match i with
  | 0 => decide
  | 1 => decide
  | n + 2 => rw [lev_ge (by show 2 ≤ n + 2; omega)]; simp
theorem of_h4 {f v r : Nat} (hr : estL (withB f v) H4 = r) (hf : f < 18446744073709551616) (W : World) (A : Option Addr) (c : Nat) (hL : Levs W W.heap.size (.slice A 2 c) H4) :
    Calls Try.prog 13 #[hv 2 0 (.slice A 2 c), .int .u64 (f : Int), .int .u64 (v : Int)] W fun e w' => e = .returned (.int .u64 (r : Int)) ∧ Below W.heap.size W w' := by
  have := of_any 2 0 H4 (by decide) lev4 (by decide) f v hf W A c hL
  rw [hr] at this
  exact this

set_option maxRecDepth 100000 in
set_option maxHeartbeats 1000000 in
theorem awake_any (w : World) : Calls Try.prog 8 #[] w fun e w' => e = .returned (.bool true) ∧ Below w.heap.size w w' := by
  have hmade : Calls Try.prog 9 #[.int .i64 0, .slice (some ⟨w.heap.size, 0, none⟩) 4 4] (w.alloc (.cells #[.int .u64 1, .int .u64 1, .int .u64 1, .int .u64 1, .int .u64 1, .int .u64 1, .int .u64 1, .int .u64 1] 44)) fun e w' => ∃ A c, e = .returned (hv 2 0 (.slice A 2 c)) ∧ Levs w' w'.heap.size (.slice A 2 c) H4 ∧ Below (w.heap.size + 1) (w.alloc (.cells #[.int .u64 1, .int .u64 1, .int .u64 1, .int .u64 1, .int .u64 1, .int .u64 1, .int .u64 1, .int .u64 1] 44)) w' := by
    have := rmade_any 0 (by omega) (by omega) F4 (w.alloc (.cells #[.int .u64 1, .int .u64 1, .int .u64 1, .int .u64 1, .int .u64 1, .int .u64 1, .int .u64 1, .int .u64 1] 44)) (some ⟨w.heap.size, 0, none⟩) 4 4 ⟨rfl, lit_four w _ 1 1 1 1 1 1 1 1, by decide⟩
    rw [show kOf 0 = 2 from rfl, show doneN F4 = 4 from rfl, playF4] at this
    rw [World.size_alloc] at this
    exact this
  have hld := fun (W : World) (A : Option Addr) (n c : Nat) => lmade_any 2 0 A n c W
  have hpa : ∀ (W : World) (A : Option Addr) (c : Nat), Levs W W.heap.size (.slice A 2 c) H4 → Calls Try.prog 10 #[.agg #[.int .i64 2, .int .i64 0, .slice A 2 c], .int .u64 4, .int .u64 3] W fun e w' => e = .returned (.tuple #[.int .u64 2, .int .u64 2]) ∧ Below W.heap.size W w' := fun W A c hL => parts_any 2 0 H4 (by decide) lev4 (by decide) 4 3 (by omega) W A c hL
  have ho2 : ∀ (W : World) (A : Option Addr) (c : Nat), Levs W W.heap.size (.slice A 2 c) H4 → Calls Try.prog 13 #[.agg #[.int .i64 2, .int .i64 0, .slice A 2 c], .int .u64 4, .int .u64 2] W fun e w' => e = .returned (.int .u64 2) ∧ Below W.heap.size W w' := fun W A c hL => of_h4 (f := 4) (v := 2) (r := 2) (by decide) (by omega) W A c hL
  have ho3 : ∀ (W : World) (A : Option Addr) (c : Nat), Levs W W.heap.size (.slice A 2 c) H4 → Calls Try.prog 13 #[.agg #[.int .i64 2, .int .i64 0, .slice A 2 c], .int .u64 4, .int .u64 3] W fun e w' => e = .returned (.int .u64 3) ∧ Below W.heap.size W w' := fun W A c hL => of_h4 (f := 4) (v := 3) (r := 3) (by decide) (by omega) W A c hL
  have ho9 : ∀ (W : World) (A : Option Addr) (c : Nat), Levs W W.heap.size (.slice A 2 c) H4 → Calls Try.prog 13 #[.agg #[.int .i64 2, .int .i64 0, .slice A 2 c], .int .u64 4, .int .u64 9] W fun e w' => e = .returned (.int .u64 4) ∧ Below W.heap.size W w' := fun W A c hL => of_h4 (f := 4) (v := 9) (r := 4) (by decide) (by omega) W A c hL
  have ht1 : ∀ (W : World) (A : Option Addr) (c : Nat), Levs W W.heap.size (.slice A 2 c) H4 → Calls Try.prog 17 #[.agg #[.int .i64 2, .int .i64 0, .slice A 2 c]] W fun e w' => e = .returned (.int .u64 4) ∧ Below W.heap.size W w' := fun W A c hL => total_any 2 0 H4 (by decide) (by decide) W A c hL
  have HM := Lib.hid hmade
  have HLD := Lib.hid hld
  have PA := Lib.hid hpa
  have O2 := Lib.hid ho2
  have O3 := Lib.hid ho3
  have O9 := Lib.hid ho9
  have T1 := Lib.hid ht1
  clear hmade hld hpa ho2 ho3 ho9 ht1
  go_enter Try.func8, Try.ntmps8
  go_upto_region 2 with (first
    | (go_at_call 9; refine HM.out.mono ?_; rintro e w1 ⟨A, c, rfl, hL1, hb1⟩; have HL1 := Lib.hid hL1; have HB1 := Lib.hid (((Below.refl w.heap.size w).alloc (Nat.le_refl _) _).trans (hb1.mono (by omega))); clear hL1 hb1)
    | (go_at_call 11; refine (HLD.out _ _ _ _).mono ?_; rintro e w2 ⟨rfl, hb2⟩; have HL2 := Lib.hid (HL1.out.grow hb2); have HB2 := Lib.hid (thn HB1.out hb2); clear hb2))
  obtain ⟨W3, hW3⟩ : ∃ W, w2.alloc (.cells #[.int .i64 2, .int .i64 0, .slice A 2 c] 32) = W := ⟨_, rfl⟩
  have hp3 : W3.heap[w2.heap.size]? = some (.cells #[.int .i64 2, .int .i64 0, .slice A 2 c] 32) := by rw [← hW3]; exact heap_alloc_new w2 _
  have hB3 : Below w2.heap.size w2 W3 := by rw [← hW3]; exact (Below.refl _ w2).alloc (Nat.le_refl _) _
  rw [hW3]
  have HL3 := Lib.hid (HL2.out.grow hB3)
  have HB3 := Lib.hid (thn HB2.out hB3)
  have HP3 := Lib.hid hp3
  obtain ⟨q0, q1, q2⟩ := box3 hp3
  have l3 := lt_of hp3
  obtain ⟨b1, hb1⟩ : ∃ b, w2.heap.size = b := ⟨_, rfl⟩
  rw [hb1] at q0 q1 q2 l3 HP3 ⊢
  clear hW3 hp3 hB3 HL1 HL2 HB1 HB2 HM HLD hb1
  go_wp2_with (first
    | (go_at_call 10; (with_reducible refine (PA.out _ _ _ HL3.out).mono ?_); rintro e w4 ⟨rfl, hb4⟩; have HB4 := Lib.hid hb4; obtain ⟨r0, r1, r2⟩ := box3 ((hb4.block _ l3).trans HP3.out); have l4 := Nat.lt_of_lt_of_le l3 hb4.size; clear hb4)
    | (go_at_call 17; (with_reducible refine (T1.out _ _ _ (HL3.out.grow HB4.out)).mono ?_); rintro e w5 ⟨rfl, hb5⟩; have HB5 := Lib.hid (thn HB4.out hb5); obtain ⟨r0', r1', r2'⟩ := box3 ((HB5.out.block _ l3).trans HP3.out); have l5 := Nat.lt_of_lt_of_le l3 HB5.out.size; clear hb5)
    | (go_at_call 13; (with_reducible refine (O2.out _ _ _ (HL3.out.grow HB5.out)).mono ?_); rintro e w6 ⟨rfl, hb6⟩; have HB6 := Lib.hid (thn HB5.out hb6); obtain ⟨s0, s1, s2⟩ := box3 ((HB6.out.block _ l3).trans HP3.out); have l6 := Nat.lt_of_lt_of_le l3 HB6.out.size; clear hb6)
    | (go_at_call 13; (with_reducible refine (O3.out _ _ _ (HL3.out.grow HB6.out)).mono ?_); rintro e w7 ⟨rfl, hb7⟩; have HB7 := Lib.hid (thn HB6.out hb7); obtain ⟨s0', s1', s2'⟩ := box3 ((HB7.out.block _ l3).trans HP3.out); have l7 := Nat.lt_of_lt_of_le l3 HB7.out.size; clear hb7)
    | (go_at_call 13; (with_reducible refine (O9.out _ _ _ (HL3.out.grow HB7.out)).mono ?_); rintro e w8 ⟨rfl, hb8⟩; have HB8 := Lib.hid (thn HB7.out hb8); clear hb8))
  go_ret
  exact ⟨rfl, thn HB3.out HB8.out⟩

end Go.Proofs.Ythmbmiikhghaoaa
