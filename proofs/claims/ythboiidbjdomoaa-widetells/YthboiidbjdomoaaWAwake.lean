/- What the laws of stage 3 call first: awake. -/
import Derived.Test.YthboiidbjdomoaaWideRef
namespace Go.Proofs.Ythboiidbjdomoaa
open Go.RowKit Go.Proofs.Wm

theorem awake_any (w : World) : Calls Try.prog 8 #[] w fun e w' => e = .returned (.bool true) ∧ Below w.heap.size w w' := by
  have h1 : ∀ W : World, Calls Try.prog 9 #[.int .u64 9223372036854775808, .int .u64 6] W fun e w' => e = .returned (.tuple #[.int .u64 3, .int .u64 0]) ∧ Below W.heap.size W w' := fun W => mul_any 9223372036854775808 6 (by decide) (by decide) W
  have h2 : ∀ W : World, Calls Try.prog 13 #[.int .u64 2305843009213693952, .int .u64 1] W fun e w' => e = .returned (.int .u64 1) ∧ Below W.heap.size W w' := fun W => mulMod_any 2305843009213693952 1 (by decide) (by decide) W
  have h3 : ∀ W : World, Calls Try.prog 15 #[.int .u64 2305843009213693951, .int .u64 5] W fun e w' => e = .returned (.int .u64 5) ∧ Below W.heap.size W w' := fun W => addMod_any 2305843009213693951 5 (by decide) (by decide) W
  have h4 : ∀ W : World, Calls Try.prog 11 #[.int .u64 1, .int .u64 0] W fun e w' => e = .returned (.int .u64 8) ∧ Below W.heap.size W w' := fun W => mod_any 1 0 (by decide) (by decide) W
  have H1 := Lib.hid h1
  have H2 := Lib.hid h2
  have H3 := Lib.hid h3
  have H4 := Lib.hid h4
  clear h1 h2 h3 h4
  go_enter Try.func8, Try.ntmps8
  go_wp2_with (first
    | (go_at_call 9; refine (H1.out _).mono ?_; rintro e wa ⟨rfl, hb1⟩)
    | (go_at_call 13; refine (H2.out _).mono ?_; rintro e wb ⟨rfl, hb2⟩)
    | (go_at_call 15; refine (H3.out _).mono ?_; rintro e wc ⟨rfl, hb3⟩)
    | (go_at_call 11; refine (H4.out _).mono ?_; rintro e wd ⟨rfl, hb4⟩))
  go_ret
  exact ⟨rfl, hb1.trans ((hb2.trans ((hb3.trans (hb4.mono hb3.size)).mono hb2.size)).mono hb1.size)⟩

end Go.Proofs.Ythboiidbjdomoaa
