/- The contracts of package codec. -/
import Derived.WalkKit
import Derived.OwnWalk
import Derived.LoopTactic
import Derived.Laws.CopyOwn
import Derived.Lib.Hide
import Derived.Lib.SliceRun
import Derived.Test.YtemplngmkpldeaaBytes
import Derived.Test.YtemplngmkpldeaaCMath
namespace Go.Proofs.Ytemplngmkpldeaa
open Go.RowKit Go.Proofs.Vm

theorem num_own (x : Nat) (hx : x < 18446744073709551616) (w : World) :
    Calls Try.prog 9 #[.int .u64 x] w fun e w' => ∃ v, e = .returned v ∧ w'.ownsRow w.heap.size 5 1 v (vput x).length ((vput x).map (Value.int .u8)) ∧ Below w.heap.size w w' := by
  have HX := Lib.hid hx
  clear hx
  go_enter Try.func9, Try.ntmps9
  go_wp2_with (go_at_call 27; with_reducible refine (put_any x HX.out _).mono ?_; rintro e w1 ⟨v1, rfl, h1, hb1⟩; have H1 := Lib.hid h1; have HB1 := Lib.hid hb1; clear h1 hb1)
  go_ret
  exact ⟨v1, rfl, H1.out, HB1.out⟩

/-- Bytes of which the first k are laid. -/
def fixed_fill (n k : Nat) : List Int := (List.range 8).map fun j => if j < k then fixB n j else 0

theorem fill_set (n k : Nat) : ((fixed_fill n k).map (Value.int .u8)).set k (.int .u8 (fixB n k)) = (fixed_fill n (k + 1)).map (Value.int .u8) := by
  apply List.ext_getElem
  · simp [fixed_fill]
  · intro i h1 h2
    rw [List.getElem_set]
    simp only [fixed_fill, List.getElem_map, List.getElem_range]
    by_cases e : k = i
    · subst e; simp
    · by_cases h : i < k
      · simp [e, h, show i < k + 1 by omega]
      · simp [e, h, show ¬ i < k + 1 by omega]

theorem fill_zero (n : Nat) : (fixed_fill n 0).map (Value.int .u8) = (madeCells (Value.int IntKind.u8 0).cells (8 * 1)).toList := by
  rw [show (Value.int IntKind.u8 0).cells = #[.int .u8 0] from rfl, toList_madeCells_one]
  simp only [fixed_fill, Nat.not_lt_zero, if_false]
  rfl
theorem fill_all (n : Nat) : fixed_fill n 8 = vfix n := by
  unfold fixed_fill vfix
  refine List.map_congr_left fun j hj => ?_
  rw [if_pos (List.mem_range.1 hj)]

theorem fix_word (n k : Nat) : (n : Int) / 2 ^ (8 * (7 - k)) % 256 = fixB n k := by
  unfold fixB
  rw [show (256 : Nat) = 2 ^ 8 by decide, ← Nat.pow_mul, Int.natCast_emod, Int.natCast_ediv, Int.natCast_pow]
  rfl

set_option maxHeartbeats 1000000 in
theorem fixed_own (n : Nat) (hn : n < 18446744073709551616) (w : World) :
    Calls Try.prog 11 #[.int .u64 n] w fun e w' => ∃ v, e = .returned v ∧ w'.ownsRow w.heap.size 5 1 v (vfix n).length ((vfix n).map (Value.int .u8)) ∧ Below w.heap.size w w' := by
  obtain ⟨i0, hi, hz0, hz1, hz2⟩ := info_parts info5
  have hn2 : (n : Int) ≤ 18446744073709551615 := by omega
  clear hn
  go_enter Try.func11, Try.ntmps11
  go_wp2_with (at_make; refine wpList_make_full _ rfl _ _ 23 rfl w.heap.size 5 i0 (.int .u8 0) 1 Try.underlying23 hi hz0 hz1 .i64 .i64 8 8 8 rfl rfl rfl rfl (by rw [hz2]; decide) (by decide) (Nat.le_refl _) ?_; intro wm hown hgm; have HO := Lib.hid hown; have HG := Lib.hid hgm; clear hown hgm)
  go_loopw [8] (fun i wr => ∃ k : Nat, k ≤ 8 ∧ i = .int .i64 k ∧ Hid (wr.ownsRow w.heap.size 5 1 (.slice (some ⟨w.heap.size, 0, none⟩) 8 8) 8 ((fixed_fill n k).map (Value.int .u8))) ∧ Hid (Below w.heap.size w wr)) (fun i _ => 8 - (intOf i).toNat)
  case atStart =>
    refine ⟨0, by omega, rfl, ?_, (Below.refl _ w).grown HG.out (Nat.le_refl _) (fun j e => by cases e)⟩
    rw [fill_zero]; exact HO.out
  case round =>
    obtain ⟨k, hk, rfl, HR, HB⟩ := hrel
    by_cases hlt : k < 8
    · have hc := HR.out.cellAt k (by omega)
      have hf := HR.out.frozenAt k
      rw [List.getElem?_eq_getElem (by simpa [fixed_fill] using hlt)] at hc
      have HW := Lib.hid (fix_word n k)
      go_wp2
      go_roundw
      case rel =>
        rw [HW.out]
        have hs := HR.out.stored k (.int .u8 (fixB n k))
        rw [fill_set n k] at hs
        exact ⟨k + 1, by omega, by go_num, hs.1, HB.out.setCell (Nat.le_refl _) _⟩
      case measure => simp [intOf]; omega
    · obtain rfl : k = 8 := by omega
      clear hlt
      go_wp2
      go_ret
      have h8 := HR.out
      rw [fill_all] at h8
      exact ⟨_, rfl, by rw [vfix_len]; exact h8, HB.out⟩

theorem clone_any {w : World} {v : Value} {bs : List Int} (h : Holds w w.heap.size v bs) (hl : bs.length ≤ 1000000) :
    Calls Try.prog 29 #[v] w fun e w' => ∃ v, e = .returned v ∧ Holds w' w'.heap.size v bs ∧ Below w.heap.size w w' := by
  have HH := Lib.hid h
  obtain ⟨A, cap, rfl, h1, h2, h3⟩ := h
  unfold maxLen at h2
  have hq := fun (w : World) => Lib.run_eql_slice_nil (P := Try.prog) w 23 5 A bs.length cap 0 0 Try.underlying23
  cases A with
  | none =>
    have hbs : bs = [] := by
      rcases h3 with h3 | ⟨b, off, _, hA, _⟩
      · exact h3
      · cases hA
    subst hbs
    clear h3 HH
    simp only [List.length_nil, Option.isNone_none] at hq ⊢
    go_enter Try.func29, Try.ntmps29
    go_wp2
    go_ret
    exact ⟨_, rfl, ⟨none, 0, rfl, by simp, by simp, .inl rfl⟩, Below.refl _ _⟩
  | some a =>
    clear h3
    go_enter Try.func29, Try.ntmps29
    go_wp2_with (at_builtin; refine wpList_app _ rfl (.tmp 5) (.tmp 6) rfl w.heap.size _ _ [] bs w.heap.size rfl (World.ownsRow_made w #[] 0 (Nat.le_refl _) (by decide) rfl) rfl (HH.out.alloc (Nat.le_refl _) _) (by simp; omega) (by simp) ?_; intro v1 wc hown1 hg1; have H1 := Lib.hid hown1; have HG1 := Lib.hid (((Below.refl w.heap.size w).alloc (Nat.le_refl _) _).grown hg1 (by simp) (fun j ej => by cases ej; exact Nat.le_refl _)); clear hown1 hg1)
    go_ret
    exact ⟨_, rfl, Holds.of_own H1.out, HG1.out⟩

set_option maxHeartbeats 1000000 in
theorem text_own {w : World} {v : Value} {bs : List Int} (h : Holds w w.heap.size v bs) (hl : bs.length ≤ 100000) :
    Calls Try.prog 13 #[v] w fun e w' => ∃ v, e = .returned v ∧ w'.ownsRow w.heap.size 5 1 v (vtext bs).length ((vtext bs).map (Value.int .u8)) ∧ Below w.heap.size w w' := by
  have HH := Lib.hid h
  obtain ⟨A, cap, rfl, h1, h2, h3⟩ := h
  clear h1 h2 h3
  have hv10 := vput_len10 bs.length (by omega)
  go_enter Try.func13, Try.ntmps13
  go_wp2_with (first
    | (go_at_call 9; with_reducible refine (num_own bs.length (by omega) _).mono ?_; rintro e w1 ⟨v1, rfl, h1, hb1⟩; have H1 := Lib.hid h1; have HB1 := Lib.hid hb1; clear h1 hb1)
    | (at_builtin; refine wpList_app _ rfl (.tmp 6) (.tmp 7) rfl w.heap.size _ _ (vput bs.length) bs w.heap.size rfl H1.out rfl (HH.out.below HB1.out) (by omega) HB1.out.size ?_; intro v2 w2 hown2 hg2; have H2 := Lib.hid hown2; have HG2 := Lib.hid (HB1.out.grown hg2 HB1.out.size (fun j ej => (H1.out.lt j ej).1)); clear hown2 hg2))
  go_ret
  exact ⟨_, rfl, H2.out, HG2.out⟩

end Go.Proofs.Ytemplngmkpldeaa
