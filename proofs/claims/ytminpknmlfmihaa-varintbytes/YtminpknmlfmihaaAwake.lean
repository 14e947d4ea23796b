/- The law's own first look: a number there and back. -/
import Derived.WalkKit
import Derived.OwnWalk
import Derived.BigQuiet
import Derived.Test.YtminpknmlfmihaaFacts
import Derived.Test.YtminpknmlfmihaaBytes
namespace Go.Proofs.Ytminpknmlfmihaa
open Go.RowKit Go.Proofs.Vm Go.Proofs.Rf

/-- Bytes that a literal has laid: a new block of theirs alone. -/
theorem Holds.lit (w : World) (N : Nat) (hN : w.heap.size = N) (bs : List Int) (cs : Array Value) (n : Nat) (hn : bs.length = n) (hcs : cs = (bs.map (Value.int .u8)).toArray) (hm : bs.length ≤ maxLen) : Holds (w.alloc (.cells cs 5)) (N + 1) (.slice (some ⟨N, 0, none⟩) n n) bs := by
  subst hn; subst hcs; subst hN
  refine ⟨_, bs.length, rfl, Nat.le_refl _, hm, .inr ⟨w.heap.size, 0, by omega, rfl, fun j hj => ?_⟩⟩
  rw [Nat.zero_add, World.cell?_alloc_mark, List.getElem?_toArray, List.getElem?_map, List.getElem?_eq_getElem hj, List.getD_eq_getElem?_getD, List.getElem?_eq_getElem hj]
  rfl

theorem vt1 : vtake [172, 2, 9] = (300, 2, 0) := by decide
theorem vt2 : vtake [128, 0] = (0, 0, 2) := by decide
theorem vt3 : vtake [128] = (0, 0, 3) := by decide
theorem vp300 : vput 300 = [172, 2] := by rw [vput_ge (by omega), vput_lt (by omega)]; rfl

/-- A literal of two bytes, as a string. -/
theorem lit2 (b : Nat) (x y : Int) (hx : 0 ≤ x ∧ x ≤ 255) (hy : 0 ≤ y ∧ y ≤ 255) (W : World) (h0 : W.cell? ⟨b, 0, none⟩ = some (.int .u8 x)) (h1 : W.cell? ⟨b, 1, none⟩ = some (.int .u8 y)) :
    (convert 23 9 (.slice (some ⟨b, 0, none⟩) 2 2)).run Try.prog W = .ok (.string (strOf [x, y])) W := by
  refine run_str (B := b + 1) ⟨_, 2, rfl, by simp, by decide, .inr ⟨b, 0, by omega, rfl, fun j hj => ?_⟩⟩ (by simp; omega)
  match j, hj with
  | 0, _ => exact h0
  | 1, _ => exact h1

/-- varint.Put, for a walk: what its bytes are as a string, also behind one new block more; old cells are as they were. -/
theorem put_walk (x : Nat) (hx : x < 18446744073709551616) (w : World) :
    Calls Try.prog 11 #[.int .u64 x] w fun e w' => ∃ v, e = .returned v ∧ (convert 23 9 v).run Try.prog w' = .ok (.string (strOf (vput x))) w' ∧ (∀ o, (convert 23 9 v).run Try.prog (w'.alloc o) = .ok (.string (strOf (vput x))) (w'.alloc o)) ∧
      (∀ b o, b < w.heap.size → w'.cell? ⟨b, o, none⟩ = w.cell? ⟨b, o, none⟩) ∧ w.heap.size ≤ w'.heap.size ∧ Hid (Below w.heap.size w w') :=
  (put_holds x hx w).mono fun _ _ ⟨v, he, ho, hb⟩ => ⟨v, he, run_str ho (vput_bounds x), fun o => run_str (ho.alloc (Nat.le_refl _) o) (vput_bounds x), fun b o h => hb.cell (p := ⟨b, o, none⟩) h, hb.size, hb⟩

set_option maxHeartbeats 1000000 in
theorem awake_any (w : World) : Calls Try.prog 8 #[] w fun e w' => e = .returned (.bool true) ∧ Below w.heap.size w w' := by
  have t1 := fun (w : World) (N : Nat) (hN : w.heap.size = N) => take_any (Holds.lit w N hN [172, 2, 9] #[.int .u8 172, .int .u8 2, .int .u8 9] 3 rfl rfl (by decide)) (by simp)
  have t2 := fun (w : World) (N : Nat) (hN : w.heap.size = N) => take_any (Holds.lit w N hN [128, 0] #[.int .u8 128, .int .u8 0] 2 rfl rfl (by decide)) (by simp)
  have t3 := fun (w : World) (N : Nat) (hN : w.heap.size = N) => take_any (Holds.lit w N hN [128] #[.int .u8 128] 1 rfl rfl (by decide)) (by simp)
  simp only [vt1, vt2, vt3, tk] at t1 t2 t3
  have T1 := Lib.hid t1
  have T2 := Lib.hid t2
  have T3 := Lib.hid t3
  clear t1 t2 t3
  go_enter Try.func8, Try.ntmps8
  go_wp2_with (first
    | (go_at_call 9; with_reducible refine (T1.out _ _ (by simp)).mono ?_; clear T1; rintro e w' ⟨rfl, rfl⟩)
    | (go_at_call 9; with_reducible refine (T2.out _ _ (by simp)).mono ?_; clear T2; rintro e w' ⟨rfl, rfl⟩)
    | (go_at_call 9; with_reducible refine (T3.out _ _ (by simp)).mono ?_; clear T3; rintro e w' ⟨rfl, rfl⟩))
  refine region_facts0 (fr := ?fr) 5 [28, 29, 30, 31, 32] (fun i v W => match i with
      | 0 => Holds W W.heap.size v [172, 2]
      | 2 => Holds W W.heap.size v [172, 2]
      | 4 => v = .bool true
      | _ => v = .string (strOf [172, 2])) rfl (by kernel_rfl) (by kernel_rfl) (by kernel_rfl) (by kernel_rfl) ?hfr ?hF ?hop ?htail
  case hfr =>
    intro us
    simp only [putL]
    go_simp
    rfl
  case hF =>
    intro i v W W' hG h
    match i with
    | 0 => exact (h.below hG).mono hG.size
    | 2 => exact (h.below hG).mono hG.size
    | 1 => exact h
    | 3 => exact h
    | 4 => exact h
    | n + 5 => exact h
  case hop =>
    intro i hi us W hG hd
    match i, hi with
    | 0, _ =>
      refine hop_call rfl rfl rfl (f := 11) (args := #[.int .u64 300]) (by go_simp) ?_
      refine (put_holds 300 (by omega) W).mono ?_
      rintro e W' ⟨v, rfl, hv, hb⟩
      rw [vp300] at hv
      exact ⟨v, rfl, hb, hv⟩
    | 1, _ =>
      have h0 : Holds W W.heap.size (us 0) [172, 2] := hd 0 (by omega) (by kernel_rfl)
      have hr := run_str h0 (by simp)
      clear hd
      exact hop_value rfl rfl rfl (v := .string (strOf [172, 2])) (W' := W) (by go_simp) (Grows.refl _) rfl
    | 2, _ =>
      clear hd
      refine hop_value rfl rfl rfl (v := .slice (some ⟨W.heap.size, 0, none⟩) 2 2) (W' := W.alloc (.cells #[.int .u8 172, .int .u8 2] 5)) (by go_simp) (Grows.alloc _ _) ?_
      exact (Holds.lit W _ rfl [172, 2] _ 2 rfl rfl (by decide)).mono (by simp)
    | 3, _ =>
      have h0 : Holds W W.heap.size (us 2) [172, 2] := hd 2 (by omega) (by kernel_rfl)
      have hr := run_str h0 (by simp)
      clear hd
      exact hop_value rfl rfl rfl (v := .string (strOf [172, 2])) (W' := W) (by go_simp) (Grows.refl _) rfl
    | 4, _ =>
      have h1 : us 1 = .string (strOf [172, 2]) := hd 1 (by omega) (by kernel_rfl)
      have h3 : us 3 = .string (strOf [172, 2]) := hd 3 (by omega) (by kernel_rfl)
      clear hd
      exact hop_value rfl rfl rfl (v := .bool true) (W' := W) (by go_simp) (Grows.refl _) rfl
  case htail =>
    intro us W hG hf
    have h4 : us 4 = .bool true := hf 4 (by omega)
    clear hf
    rw [h4]
    simp only [List.drop]
    repeat (go_big_quiet_step (fail))
    refine wpQuiet_nil ?_
    rintro w' ⟨nq, rfl⟩
    go_wp2
    go_ret
    exact ⟨rfl, ((((Below.refl _ w).alloc (Nat.le_refl _) _).alloc (by simp) _).alloc (by simp; omega) _).trans (Below.mono (hG.drewN nq) (by simp; omega))⟩

end Go.Proofs.Ytminpknmlfmihaa
