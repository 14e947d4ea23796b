/- skylightlaw06.awake: four units of one tick. -/
import Derived.Test.YtimlmaincblkoaaHPlay
namespace Go.Proofs.Ytimlmaincblkoaa
open Go.RowKit Go.Shelf Go.Proofs.Rw Go.Proofs.Lh

def R4 : Lv := [[(5, 5), (5, 5)], [(5, 5)]]
theorem lev4 (i : Nat) : (lev R4 i).length ≤ 10000000 := by
  rcases i with _ | _ | i
  · decide
  · decide
  · simp [lev, R4]

set_option maxRecDepth 100000 in
set_option maxHeartbeats 1000000 in
theorem awake_any (w : World) : Calls Try.prog 9 #[] w fun e w' => e = .returned (.bool true) ∧ Below w.heap.size w w' := by
  have hnew := fun W => new_may 2 rfl W
  have hadd : ∀ W : World, Calls Try.prog 16 #[hv 2 0 (.slice none 0 0), .int .u64 5, .int .u64 4] W fun e w' => ∃ A c, e = hret (hv 2 0 (.slice A 2 c)) 0 ∧ Levs w' w'.heap.size (.slice A 2 c) R4 ∧ Below W.heap.size W w' := by
    intro W
    refine (add_ok 2 0 [] (Made.nil (by omega) (by omega)) 5 4 (by omega) (by decide) W none 0 Levs.nil).mono ?_
    rintro e w' ⟨v, he, hL, hb⟩
    rw [four] at hL
    obtain ⟨A, c, rfl, -, -, hL'⟩ := hL.form
    exact ⟨A, c, he, hL', hb⟩
  have HN := Lib.hid hnew
  have HA := Lib.hid hadd
  clear hnew hadd
  go_enter Try.func9, Try.ntmps9
  go_upto_region 2 with (go_at_call 18; refine (HN.out _).mono ?_; rintro e w1 ⟨rfl, hb1⟩; have HB1 := Lib.hid hb1; clear hb1)
  have z1 : w.heap.size ≤ w1.heap.size := HB1.out.size
  go_upto_region 3 with (go_at_call 16; refine (HA.out _).mono ?_; rintro e w2 ⟨A, c, rfl, hL, hb2⟩; have hp := (hb2.block w1.heap.size (by simp)).trans (heap_alloc_new w1 _); obtain ⟨q0, q1, q2⟩ := box3 hp; have l1 := lt_of hp; have HL := Lib.hid hL; have HB2 := Lib.hid (((Below.refl w1.heap.size w1).alloc (Nat.le_refl _) _).trans (hb2.mono (by simp))); have HP := Lib.hid hp; clear hL hb2 hp)
  obtain ⟨W3, hW3⟩ : ∃ W, w2.alloc (.cells #[.int .i64 2, .int .i64 0, .slice A 2 c] 26) = W := ⟨_, rfl⟩
  have hp3 : W3.heap[w2.heap.size]? = some (.cells #[.int .i64 2, .int .i64 0, .slice A 2 c] 26) := by rw [← hW3]; exact heap_alloc_new w2 _
  have hB3 : Below w2.heap.size w2 W3 := by rw [← hW3]; exact (Below.refl _ w2).alloc (Nat.le_refl _) _
  have hp1 := (hB3.block w1.heap.size l1).trans HP.out
  rw [hW3]
  have hL3 := HL.out.grow hB3
  obtain ⟨b, off, rfl, hb, -, hc⟩ := hL3.at (by decide)
  obtain ⟨A0, c0, y0, -, -, -⟩ := hc 0 (by decide)
  obtain ⟨A1, c1, y1, -, -, -⟩ := hc 1 (by decide)
  have y0' : W3.cell? ⟨b, off, none⟩ = some (.slice A0 2 c0) := y0
  have y1' : W3.cell? ⟨b, off + 1, none⟩ = some (.slice A1 1 c1) := y1
  have HL3 := Lib.hid hL3
  have HP3 := Lib.hid hp3
  have HP1 := Lib.hid hp1
  have Y0 := Lib.hid y0'
  have Y1 := Lib.hid y1'
  have HBB := Lib.hid hb
  have HBW := Lib.hid (thn (thn HB1.out HB2.out) hB3)
  clear hW3 hp3 hB3 hp1 hL3 hc y0 y1 y0' y1' hb q0 q1 q2 HL HP HB1 HB2 HA HN l1
  have hla : ∀ W : World, Below W3.heap.size W3 W → Calls Try.prog 11 #[hv 2 0 (.slice (some ⟨b, off, none⟩) 2 c)] W fun e w' => e = .returned (.tuple #[.int .u64 5, .bool true]) ∧ Below W.heap.size W w' := fun W hW => last_any 2 0 R4 W W.heap.size (Nat.le_refl _) (some ⟨b, off, none⟩) c (HL3.out.grow hW) (by decide)
  have hto : ∀ W : World, Below W3.heap.size W3 W → Calls Try.prog 14 #[hv 2 0 (.slice (some ⟨b, off, none⟩) 2 c)] W fun e w' => e = .returned (.int .u64 4) ∧ Below W.heap.size W w' := fun W hW => total_any 2 0 R4 (by decide) (by decide) W (some ⟨b, off, none⟩) c (HL3.out.grow hW)
  have e3 : sameB 2 0 2 0 R4 R4 = true := by decide
  have e4 : sameB 2 0 2 0 R4 [] = false := by decide
  have hs1 : ∀ W : World, Below W3.heap.size W3 W → Calls Try.prog 24 #[hv 2 0 (.slice (some ⟨b, off, none⟩) 2 c), hv 2 0 (.slice (some ⟨b, off, none⟩) 2 c)] W fun e w' => e = .returned (.bool true) ∧ Below W.heap.size W w' := fun W hW => by
    have := hsame_any 2 0 2 0 R4 R4 (by decide) lev4 W (some ⟨b, off, none⟩) (some ⟨b, off, none⟩) c c (HL3.out.grow hW) (HL3.out.grow hW)
    rw [e3] at this
    exact this
  have hs2 : ∀ W : World, Below W3.heap.size W3 W → Calls Try.prog 24 #[hv 2 0 (.slice (some ⟨b, off, none⟩) 2 c), hv 2 0 (.slice none 0 0)] W fun e w' => e = .returned (.bool false) ∧ Below W.heap.size W w' := fun W hW => by
    have := hsame_any 2 0 2 0 R4 [] (by decide) (fun i => by simp [lev]) W (some ⟨b, off, none⟩) none c 0 (HL3.out.grow hW) Levs.nil
    rw [e4] at this
    exact this
  have HLA := Lib.hid hla
  have HTO := Lib.hid hto
  have HS1 := Lib.hid hs1
  have HS2 := Lib.hid hs2
  clear hla hto hs1 hs2 e3 e4
  obtain ⟨q0, q1, q2⟩ := box3 HP3.out
  have l2 := lt_of HP3.out
  go_upto_region 4 with (go_at_call 11; refine (HLA.out _ (Below.refl _ _)).mono ?_; rintro e w4 ⟨rfl, hb4⟩; have HB4 := Lib.hid hb4; clear hb4)
  have hB := HB4.out
  have r3 := (hB.block _ l2).trans HP3.out
  have r1 := (hB.block _ (lt_of HP1.out)).trans HP1.out
  obtain ⟨s0, s1, s2⟩ := box3 r3
  obtain ⟨p0, p1, p2⟩ := box3 r1
  have m2 := lt_of r3
  have m1 := lt_of r1
  have mb : b < w4.heap.size := Nat.lt_of_lt_of_le HBB.out hB.size
  have v0 := (hB.cell (p := ⟨b, off, none⟩) HBB.out).trans Y0.out
  have v1 := (hB.cell (p := ⟨b, off + 1, none⟩) HBB.out).trans Y1.out
  have R3 := Lib.hid r3
  have R1 := Lib.hid r1
  clear q0 q1 q2 r3 r1 HLA hB l2
  go_wp2_with (first
    | (go_at_call 14; (with_reducible refine (HTO.out _ HB4.out).mono ?_); rintro e w5 ⟨rfl, hb5⟩; have t3 := (hb5.block _ m2).trans R3.out; have t1 := (hb5.block _ m1).trans R1.out; obtain ⟨s0', s1', s2'⟩ := box3 t3; obtain ⟨p0', p1', p2'⟩ := box3 t1; have m2' := lt_of t3; have m1' := lt_of t1; have HB5 := Lib.hid (thn HB4.out hb5); have R3' := Lib.hid t3; have R1' := Lib.hid t1; clear hb5 t3 t1)
    | (go_at_call 24; (with_reducible refine (HS1.out w5 HB5.out).mono ?_); rintro e w6 ⟨rfl, hb6⟩; have t3 := (hb6.block _ m2').trans R3'.out; have t1 := (hb6.block _ m1').trans R1'.out; obtain ⟨s0'', s1'', s2''⟩ := box3 t3; obtain ⟨p0'', p1'', p2''⟩ := box3 t1; have m2'' := lt_of t3; have m1'' := lt_of t1; have HB6 := Lib.hid (thn HB5.out hb6); clear hb6 t3 t1)
    | (go_at_call 24; (with_reducible refine (HS2.out w6 HB6.out).mono ?_); rintro e w7 ⟨rfl, hb7⟩; have HB7 := Lib.hid (thn HB6.out hb7); clear hb7))
  go_ret
  exact ⟨rfl, thn HBW.out HB7.out⟩

end Go.Proofs.Ytimlmaincblkoaa
