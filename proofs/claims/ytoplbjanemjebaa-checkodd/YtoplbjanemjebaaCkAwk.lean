/- skylightlaw09.awake: four units at one tick. -/
import Derived.Test.YtoplbjanemjebaaHMade
import Derived.Test.YtoplbjanemjebaaCkHist
import Derived.Test.YtoplbjanemjebaaCkLen
namespace Go.Proofs.Lh
open Go.Proofs.Lm (Sp)
def Q3 : Lv := [[(1, 1), (1, 1)], [(1, 1)]]
theorem quad1 : addW 2 [] 1 4 = Q3 := by
  unfold addW addL
  rw [newL_ne _ _ (by simp), show wentL (List.replicate 4 (1, 1)) (rm 2 0) = [(1, 1)] by decide, newL_ne _ _ (by simp), show wentL [(1, 1)] (rm 2 (0 + 1)) = [] by decide, newL_nil]
  decide
def D1 : List Sp := [(1, 4)]
theorem playD1 : play 2 D1 1 = (1, Q3) := by
  unfold play D1
  simp only [List.take_succ_cons, List.take_zero, List.foldl_cons, List.foldl_nil]
  unfold stepP
  rw [if_pos (by decide), show (0 : Nat) + (1, 4).1 % 1000 = 1 from rfl]
  exact congrArg _ quad1
end Go.Proofs.Lh
namespace Go.Proofs.Ytoplbjanemjebaa
open Go.RowKit Go.Shelf Go.Proofs.Rw Go.Proofs.Lh

theorem lit_deed (W : World) (T : TypeId) (a b : Nat) : Lies spL (W.alloc (.cells #[.int .u64 a, .int .u64 b] T)) (W.alloc (.cells #[.int .u64 a, .int .u64 b] T)).heap.size (.slice (some ⟨W.heap.size, 0, none⟩) 1 1) [(a, b)] := by
  refine ⟨_, 1, rfl, by simp, by unfold maxLen; omega, .inr ⟨W.heap.size, 0, by simp, rfl, fun j u hu => ?_⟩⟩
  rw [World.cell?_alloc_at _ _ _ _ rfl]
  simp only [Lay.cells, spL, List.flatMap_cons, List.flatMap_nil, List.append_nil] at hu
  simpa using hu
theorem lit_reads (W : World) (T T2 : TypeId) (a b : Nat) : Reads ((W.alloc (.cells #[.int .u64 a, .int .u64 b] T)).alloc (.cells #[.slice (some ⟨W.heap.size, 0, none⟩) 1 1] T2)) ((W.alloc (.cells #[.int .u64 a, .int .u64 b] T)).alloc (.cells #[.slice (some ⟨W.heap.size, 0, none⟩) 1 1] T2)).heap.size (.slice (some ⟨W.heap.size + 1, 0, none⟩) 1 1) [[(a, b)]] := by
  have h1 := (lit_deed W T a b).grow ((Below.refl _ _).alloc (Nat.le_refl _) (.cells #[.slice (some ⟨W.heap.size, 0, none⟩) 1 1] T2))
  refine ⟨fun n c e => (by cases e), [.slice (some ⟨W.heap.size, 0, none⟩) 1 1], ⟨_, 1, rfl, by simp, by unfold maxLen; omega, .inr ⟨W.heap.size + 1, 0, by simp, rfl, fun j u hu => ?_⟩⟩, rfl, fun i u l hu hl => ?_⟩
  · rw [valL_cells] at hu
    rw [World.cell?_alloc_at _ _ _ _ (by simp)]
    simpa using hu
  · match i with
    | 0 =>
      simp only [List.getElem?_cons_zero, Option.some.injEq] at hu hl
      rw [← hu, ← hl]
      exact h1
    | n + 1 => simp at hu

theorem levQ (i : Nat) : (lev Q3 i).length ≤ 1000000 := by
  match i with
  | 0 => decide
  | 1 => decide
  | n + 2 => rw [lev_ge (by show 2 ≤ n + 2; omega)]; simp
theorem levO (i : Nat) : (lev [[(1, 2)]] i).length ≤ 1000000 := by
  match i with
  | 0 => decide
  | n + 1 => rw [lev_ge (by show 1 ≤ n + 1; omega)]; simp

set_option maxRecDepth 100000 in
set_option maxHeartbeats 1000000 in
theorem awake_any (w : World) : Calls Try.prog 8 #[] w fun e w' => e = .returned (.bool true) ∧ Below w.heap.size w w' := by
  have hmade : Calls Try.prog 17 #[.int .i64 0, .slice (some ⟨w.heap.size, 0, none⟩) 1 1] (w.alloc (.cells #[.int .u64 1, .int .u64 4] 49)) fun e w' => ∃ A c, e = .returned (hv 2 0 (.slice A 2 c)) ∧ Levs w' w'.heap.size (.slice A 2 c) Q3 ∧ Below (w.heap.size + 1) (w.alloc (.cells #[.int .u64 1, .int .u64 4] 49)) w' := by
    have := rmade_any 0 (by omega) (by omega) D1 (w.alloc (.cells #[.int .u64 1, .int .u64 4] 49)) (some ⟨w.heap.size, 0, none⟩) 1 1 ⟨rfl, lit_deed w _ 1 4, by decide⟩
    rw [show kOf 0 = 2 from rfl, show doneN D1 = 1 from rfl, playD1] at this
    rw [World.size_alloc] at this
    exact this
  have hld := fun (W : World) (A : Option Addr) (n c : Nat) => lmade_any 2 0 A n c W
  have hh0 : ∀ (W : World) (A : Option Addr) (c : Nat), Levs W W.heap.size (.slice A 2 c) Q3 → Calls Try.prog 10 #[.agg #[.int .i64 2, .int .i64 0, .slice A 2 c]] W fun e w' => e = .returned (.int .i64 0) ∧ Below W.heap.size W w' := fun W A c hL => by
    have := hist_any 2 0 Q3 (by decide) levQ W A c hL.reads
    rw [show chk 2 0 Q3 = 0 by decide] at this
    exact this
  have hh5 : ∀ (W : World) (A : Option Addr) (c : Nat), Levs W W.heap.size (.slice A 2 c) Q3 → Calls Try.prog 10 #[.agg #[.int .i64 2, .int .i64 5, .slice A 2 c]] W fun e w' => e = .returned (.int .i64 9) ∧ Below W.heap.size W w' := fun W A c hL => by
    have := hist_any 2 5 Q3 (by decide) levQ W A c hL.reads
    rw [show chk 2 5 Q3 = 9 by decide] at this
    exact this
  have hbk : ∀ (W : World) (A : Option Addr) (c : Nat), Levs W W.heap.size (.slice A 2 c) Q3 → Calls Try.prog 13 #[.agg #[.int .i64 2, .int .i64 0, .slice A 2 c]] W fun e w' => e = .returned (.int .i64 3) ∧ Below W.heap.size W w' := fun W A c hL => buckets_any 2 0 Q3 (by decide) (by decide) W A c hL.reads
  have hbo : ∀ W : World, Calls Try.prog 15 #[.int .i64 2, .int .i64 0, .int .u64 4] W fun e w' => e = .returned (.int .i64 9) ∧ W = w' := fun W => by
    have := bound_any 2 0 4 (by omega) W
    rw [show boundN 2 0 4 = 9 by unfold boundN; rw [if_pos (by decide), show (4 : Nat) = 2 ^ 2 from rfl, digs_pow]; decide] at this
    exact this
  have hh2 : ∀ W : World, Calls Try.prog 10 #[.agg #[.int .i64 2, .int .i64 0, .slice (some ⟨W.heap.size + 1, 0, none⟩) 1 1]] ((W.alloc (.cells #[.int .u64 1, .int .u64 2] 44)).alloc (.cells #[.slice (some ⟨W.heap.size, 0, none⟩) 1 1] 45)) fun e w' => e = .returned (.int .i64 2) ∧ Below W.heap.size W w' := fun W => by
    have := hist_any 2 0 [[(1, 2)]] (by decide) levO _ _ _ (lit_reads W 44 45 1 2)
    rw [show chk 2 0 [[(1, 2)]] = 2 by decide] at this
    refine this.mono ?_
    rintro e w' ⟨rfl, hb⟩
    exact ⟨rfl, (((Below.refl _ W).alloc (Nat.le_refl _) _).alloc (by simp) _).trans (hb.mono (by simp; omega))⟩
  have HM := Lib.hid hmade
  have HLD := Lib.hid hld
  have H0 := Lib.hid hh0
  have H5 := Lib.hid hh5
  have BK := Lib.hid hbk
  have BO := Lib.hid hbo
  have H2 := Lib.hid hh2
  clear hmade hld hh0 hh5 hbk hbo hh2
  go_enter Try.func8, Try.ntmps8
  go_upto_region 2 with (first
    | (go_at_call 17; refine HM.out.mono ?_; rintro e w1 ⟨A, c, rfl, hL1, hb1⟩; have HL1 := Lib.hid hL1; have HB1 := Lib.hid (((Below.refl w.heap.size w).alloc (Nat.le_refl _) _).trans (hb1.mono (by omega))); clear hL1 hb1)
    | (go_at_call 11; refine (HLD.out _ _ _ _).mono ?_; rintro e w2 ⟨rfl, hb2⟩; have HL2 := Lib.hid (HL1.out.grow hb2); have HB2 := Lib.hid (thn HB1.out hb2); clear hb2))
  go_upto_region 4 with (fail)
  obtain ⟨W3, hW3, hsz3, p1, p2, hB3⟩ := heap_two w2 (.cells #[.int .i64 2, .int .i64 0, .slice A 2 c] 32) (.cells #[.int .i64 2, .int .i64 5, .slice A 2 c] 32)
  rw [← hW3]
  have HL3 := Lib.hid (HL2.out.grow hB3)
  have HB3 := Lib.hid (thn HB2.out hB3)
  have P1 := Lib.hid p1
  have P2 := Lib.hid p2
  obtain ⟨q0, q1, q2⟩ := box3 p1
  have l1 := lt_of p1
  have l2 := lt_of p2
  obtain ⟨b1, hb1⟩ : ∃ b, w2.heap.size = b := ⟨_, rfl⟩
  rw [hb1] at q0 q1 q2 l1 l2 P1 P2 ⊢
  clear hW3 p1 p2 hB3 HL1 HL2 HB1 HB2 HM HLD hb1 hsz3
  go_wp2_with (first
    | (go_at_call 10; (with_reducible refine (H0.out _ _ _ HL3.out).mono ?_); rintro e w4 ⟨rfl, hb4⟩; have HB4 := Lib.hid hb4; obtain ⟨r0, r1, r2⟩ := box3 ((hb4.block _ l2).trans P2.out); have l4 := Nat.lt_of_lt_of_le l2 hb4.size; clear hb4)
    | (go_at_call 10; (with_reducible refine (H5.out _ _ _ (HL3.out.grow HB4.out)).mono ?_); rintro e w5 ⟨rfl, hb5⟩; have HB5 := Lib.hid (thn HB4.out hb5); obtain ⟨r0', r1', r2'⟩ := box3 ((HB5.out.block _ l1).trans P1.out); have l5 := Nat.lt_of_lt_of_le l1 HB5.out.size; clear hb5)
    | (go_at_call 13; (with_reducible refine (BK.out _ _ _ (HL3.out.grow HB5.out)).mono ?_); rintro e w6 ⟨rfl, hb6⟩; have HB6 := Lib.hid (thn HB5.out hb6); clear hb6)
    | (go_at_call 15; (with_reducible refine (BO.out _).mono ?_); rintro e w7 ⟨rfl, rfl⟩)
    | (go_at_call 10; (with_reducible refine (H2.out _).mono ?_); rintro e w8 ⟨rfl, hb8⟩; have HB8 := Lib.hid (thn HB6.out hb8); clear hb8))
  go_ret
  exact ⟨rfl, thn HB3.out HB8.out⟩

end Go.Proofs.Ytoplbjanemjebaa
