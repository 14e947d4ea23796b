/- skylightlaw07.awake: a window of 10. -/
import Derived.Test.YtafcgfhkeceiaaaXRDrop
namespace Go.Proofs.Lh
open Go.Proofs.Lm (Sp)
theorem one5 : addW 2 [] 5 1 = [[(5, 5)]] := by
  unfold addW addL
  rw [newL_ne _ _ (by simp), show wentL (List.replicate 1 (5, 5)) (rm 2 0) = [] by decide, newL_nil]
  decide
theorem one10 : addW 2 [[(5, 5)]] 10 1 = [[(5, 5), (10, 10)]] := by
  unfold addW addL addL
  rw [show wentL ([(5, 5)] ++ List.replicate 1 (10, 10)) (rm 2 0) = [] by decide, newL_nil]
  decide
theorem play5 : play 2 [(5, 1), (5, 1)] 2 = (10, [[(5, 5), (10, 10)]]) := by
  unfold play
  simp only [List.take_succ_cons, List.take_zero, List.foldl_cons, List.foldl_nil]
  have e1 : stepP 2 (0, []) (5, 1) = (5, [[(5, 5)]]) := by
    unfold stepP
    rw [if_pos (by decide), show addW 2 ((0 : Nat), ([] : Lv)).2 (((0 : Nat), ([] : Lv)).1 + (5, 1).1 % 1000) (5, 1).2 = addW 2 [] 5 1 from rfl, one5]
    rfl
  rw [e1]
  unfold stepP
  rw [if_pos (by decide), show addW 2 ((5 : Nat), ([[(5, 5)]] : Lv)).2 (((5 : Nat), ([[(5, 5)]] : Lv)).1 + (5, 1).1 % 1000) (5, 1).2 = addW 2 [[(5, 5)]] 10 1 from rfl, one10]
  rfl
def H2 : Lv := [[(5, 5), (10, 10)]]
theorem drop15 : dropL 15 10 H2 = [[(10, 10)]] := by decide
theorem drop20 : dropL 20 10 H2 = [] := by decide
theorem made2 : Made 2 H2 := by
  have := play_made (k := 2) (by omega) (by omega) [(5, 1), (5, 1)] 2 (by simp)
  rw [play5] at this
  exact this
end Go.Proofs.Lh
namespace Go.Proofs.Ytafcgfhkeceiaaa
open Go.RowKit Go.Shelf Go.Proofs.Rw Go.Proofs.Lh

theorem lit_two (W : World) (T : TypeId) (a b c d : Nat) : Lies spL (W.alloc (.cells #[.int .u64 a, .int .u64 b, .int .u64 c, .int .u64 d] T)) (W.alloc (.cells #[.int .u64 a, .int .u64 b, .int .u64 c, .int .u64 d] T)).heap.size (.slice (some ⟨W.heap.size, 0, none⟩) 2 2) [(a, b), (c, d)] := by
  refine ⟨_, 2, rfl, by simp, by unfold maxLen; omega, .inr ⟨W.heap.size, 0, by simp, rfl, fun j u hu => ?_⟩⟩
  rw [World.cell?_alloc_at _ _ _ _ rfl]
  simp only [Lay.cells, spL, List.flatMap_cons, List.flatMap_nil, List.append_nil] at hu
  simpa using hu

/-- Drop, of the one that awake makes. -/
theorem drop_h2 {f v : Nat} {R : Lv} (n : Nat) (hR : dropL f v H2 = R) (hn : R.length = n) (hf : f < 18446744073709551616) (W : World) (A : Option Addr) (c : Nat) (hL : Levs W W.heap.size (.slice A 1 c) H2) :
    Calls Try.prog 11 #[hv 2 0 (.slice A 1 c), .int .u64 (f : Int), .int .u64 (v : Int)] W fun e w' => ∃ A' c', e = .returned (hv 2 0 (.slice A' n c')) ∧ Levs w' w'.heap.size (.slice A' n c') R ∧ Below W.heap.size W w' := by
  have := drop_any 2 0 H2 made2 f v hf W A c hL
  rw [hR, hn] at this
  exact this

set_option maxRecDepth 100000 in
set_option maxHeartbeats 1000000 in
theorem awake_any (w : World) : Calls Try.prog 8 #[] w fun e w' => e = .returned (.bool true) ∧ Below w.heap.size w w' := by
  have hmade : Calls Try.prog 9 #[.int .i64 0, .slice (some ⟨w.heap.size, 0, none⟩) 2 2] (w.alloc (.cells #[.int .u64 5, .int .u64 1, .int .u64 5, .int .u64 1] 54)) fun e w' => ∃ A c, e = .returned (hv 2 0 (.slice A 1 c)) ∧ Levs w' w'.heap.size (.slice A 1 c) H2 ∧ Below (w.heap.size + 1) (w.alloc (.cells #[.int .u64 5, .int .u64 1, .int .u64 5, .int .u64 1] 54)) w' := by
    have := rmade_any 0 (by omega) (by omega) [(5, 1), (5, 1)] (w.alloc (.cells #[.int .u64 5, .int .u64 1, .int .u64 5, .int .u64 1] 54)) (some ⟨w.heap.size, 0, none⟩) 2 2 ⟨rfl, lit_two w _ 5 1 5 1, by decide⟩
    rw [show kOf 0 = 2 from rfl, show doneN [(5, 1), (5, 1)] = 2 from rfl, play5] at this
    rw [World.size_alloc] at this
    exact this
  have hld := fun (W : World) (A : Option Addr) (n c : Nat) => lmade_any 2 0 A n c W
  have ho1 : ∀ W : World, Calls Try.prog 14 #[.int .u64 5, .int .u64 15, .int .u64 10] W fun e w' => e = .returned (.bool true) ∧ W = w' := fun W => old_any 5 15 10 W (by omega)
  have ho2 : ∀ W : World, Calls Try.prog 14 #[.int .u64 5, .int .u64 14, .int .u64 10] W fun e w' => e = .returned (.bool false) ∧ W = w' := fun W => old_any 5 14 10 W (by omega)
  have hd1 : ∀ (W : World) (A : Option Addr) (c : Nat), Levs W W.heap.size (.slice A 1 c) H2 → Calls Try.prog 11 #[.agg #[.int .i64 2, .int .i64 0, .slice A 1 c], .int .u64 15, .int .u64 10] W fun e w' => ∃ A' c', e = .returned (.agg #[.int .i64 2, .int .i64 0, .slice A' 1 c']) ∧ Levs w' w'.heap.size (.slice A' 1 c') [[(10, 10)]] ∧ Below W.heap.size W w' := fun W A c hL => drop_h2 1 drop15 rfl (by omega) W A c hL
  have hd2 : ∀ (W : World) (A : Option Addr) (c : Nat), Levs W W.heap.size (.slice A 1 c) H2 → Calls Try.prog 11 #[.agg #[.int .i64 2, .int .i64 0, .slice A 1 c], .int .u64 20, .int .u64 10] W fun e w' => ∃ A' c', e = .returned (.agg #[.int .i64 2, .int .i64 0, .slice A' 0 c']) ∧ Levs w' w'.heap.size (.slice A' 0 c') [] ∧ Below W.heap.size W w' := fun W A c hL => drop_h2 0 drop20 rfl (by omega) W A c hL
  have ht1 : ∀ (W : World) (A : Option Addr) (c : Nat), Levs W W.heap.size (.slice A 1 c) H2 → Calls Try.prog 22 #[.agg #[.int .i64 2, .int .i64 0, .slice A 1 c]] W fun e w' => e = .returned (.int .u64 2) ∧ Below W.heap.size W w' := fun W A c hL => total_any 2 0 H2 (by decide) (by decide) W A c hL
  have ht2 : ∀ (W : World) (A : Option Addr) (c : Nat), Levs W W.heap.size (.slice A 1 c) [[(10, 10)]] → Calls Try.prog 22 #[.agg #[.int .i64 2, .int .i64 0, .slice A 1 c]] W fun e w' => e = .returned (.int .u64 1) ∧ Below W.heap.size W w' := fun W A c hL => total_any 2 0 [[(10, 10)]] (by decide) (by decide) W A c hL
  have hfd : ∀ (w : World) (A : Option Addr) (n c : Nat), (Instr.field 31 (.agg #[.int .i64 2, .int .i64 0, .slice A n c]) 2).run Try.prog w = .ok (.slice A n c) w := fun _ _ _ _ => by kernel_rfl
  have HM := Lib.hid hmade
  have HLD := Lib.hid hld
  have O1 := Lib.hid ho1
  have O2 := Lib.hid ho2
  have D1 := Lib.hid hd1
  have D2 := Lib.hid hd2
  have T1 := Lib.hid ht1
  have T2 := Lib.hid ht2
  clear hmade hld ho1 ho2 hd1 hd2 ht1 ht2
  go_enter Try.func8, Try.ntmps8
  go_upto_region 2 with (first
    | (go_at_call 9; refine HM.out.mono ?_; rintro e w1 ⟨A, c, rfl, hL1, hb1⟩; have HL1 := Lib.hid hL1; have HB1 := Lib.hid (((Below.refl w.heap.size w).alloc (Nat.le_refl _) _).trans (hb1.mono (by omega))); clear hL1 hb1)
    | (go_at_call 12; refine (HLD.out _ _ _ _).mono ?_; rintro e w2 ⟨rfl, hb2⟩; have HL2 := Lib.hid (HL1.out.grow hb2); have HB2 := Lib.hid (thn HB1.out hb2); clear hb2))
  obtain ⟨W3, hW3⟩ : ∃ W, w2.alloc (.cells #[.int .i64 2, .int .i64 0, .slice A 1 c] 31) = W := ⟨_, rfl⟩
  have hp3 : W3.heap[w2.heap.size]? = some (.cells #[.int .i64 2, .int .i64 0, .slice A 1 c] 31) := by rw [← hW3]; exact heap_alloc_new w2 _
  have hB3 : Below w2.heap.size w2 W3 := by rw [← hW3]; exact (Below.refl _ w2).alloc (Nat.le_refl _) _
  rw [hW3]
  have HL3 := Lib.hid (HL2.out.grow hB3)
  have HB3 := Lib.hid (thn HB2.out hB3)
  have HP3 := Lib.hid hp3
  obtain ⟨q0, q1, q2⟩ := box3 hp3
  have l3 := lt_of hp3
  obtain ⟨b1, hb1⟩ : ∃ b, w2.heap.size = b := ⟨_, rfl⟩
  rw [hb1] at q0 q1 q2 l3 HP3 ⊢
  clear hW3 hp3 hB3 HL1 HL2 HB1 HB2 HM HLD hb1
  go_upto_region 3 with (go_at_call 11; refine (D1.out _ _ _ HL3.out).mono ?_; rintro e w4 ⟨A4, c4, rfl, hL4, hb4⟩; have HL4 := Lib.hid hL4; have HB4 := Lib.hid hb4; clear hL4 hb4)
  obtain ⟨W5, hW5⟩ : ∃ W, w4.alloc (.cells #[.int .i64 2, .int .i64 0, .slice A4 1 c4] 31) = W := ⟨_, rfl⟩
  have hp5 : W5.heap[w4.heap.size]? = some (.cells #[.int .i64 2, .int .i64 0, .slice A4 1 c4] 31) := by rw [← hW5]; exact heap_alloc_new w4 _
  have hB5 : Below w4.heap.size w4 W5 := by rw [← hW5]; exact (Below.refl _ w4).alloc (Nat.le_refl _) _
  rw [hW5]
  have hp35 := (hB5.block _ (Nat.lt_of_lt_of_le l3 HB4.out.size)).trans ((HB4.out.block _ l3).trans HP3.out)
  have HL35 := Lib.hid ((HL3.out.grow HB4.out).grow hB5)
  have HL5 := Lib.hid (HL4.out.grow hB5)
  have HB5 := Lib.hid (thn (thn HB3.out HB4.out) hB5)
  have HP5 := Lib.hid hp5
  have HP35 := Lib.hid hp35
  clear q0 q1 q2 l3
  obtain ⟨r0, r1, r2⟩ := box3 hp35
  obtain ⟨s0, s1, s2⟩ := box3 hp5
  have l3 := lt_of hp35
  have l5 := lt_of hp5
  obtain ⟨b2, hb2⟩ : ∃ b, w4.heap.size = b := ⟨_, rfl⟩
  rw [hb2] at s0 s1 s2 l5 HP5 ⊢
  clear hW5 hp5 hB5 hp35 HL3 HL4 HB3 HB4 HP3 D1 hb2
  go_wp2_with (first
    | (go_at_call 14; (with_reducible refine (O1.out _).mono ?_); rintro e w6 ⟨rfl, rfl⟩)
    | (go_at_call 14; (with_reducible refine (O2.out _).mono ?_); rintro e w6 ⟨rfl, rfl⟩)
    | (go_at_call 22; (with_reducible refine (T1.out _ _ _ HL35.out).mono ?_); rintro e w7 ⟨rfl, hb7⟩; have HB7 := Lib.hid hb7; obtain ⟨s0', s1', s2'⟩ := box3 ((hb7.block _ l5).trans HP5.out); have l5' := Nat.lt_of_lt_of_le l5 hb7.size; clear hb7)
    | (go_at_call 22; (with_reducible refine (T2.out _ _ _ (HL5.out.grow HB7.out)).mono ?_); rintro e w8 ⟨rfl, hb8⟩; have HB8 := Lib.hid (thn HB7.out hb8); obtain ⟨r0', r1', r2'⟩ := box3 ((HB8.out.block _ l3).trans HP35.out); have l3' := Nat.lt_of_lt_of_le l3 HB8.out.size; clear hb8)
    | (go_at_call 11; (with_reducible refine (D2.out _ _ _ (HL35.out.grow HB8.out)).mono ?_); rintro e w9 ⟨A9, c9, rfl, hL9, hb9⟩; have HB9 := Lib.hid (thn HB8.out hb9); clear hb9 hL9))
  go_ret
  exact ⟨rfl, thn HB5.out HB9.out⟩

end Go.Proofs.Ytafcgfhkeceiaaa
