/- The contracts of varint.mayEnd and varint.Take. -/
import Derived.WalkKit
import Derived.OwnWalk
import Derived.LoopTactic
import Derived.Lib.Hide
import Derived.IntWalk
import Derived.Test.YtemplngmkpldeaaProg
import Derived.Test.YtemplngmkpldeaaMath
namespace Go.Proofs.Ytemplngmkpldeaa
open Go.RowKit Go.Proofs.Vm

theorem mayEnd_any (d : Int) (i : Nat) (w : World) : Calls Try.prog 38 #[.int .u8 d, .int .i64 i] w fun e w' => e = .returned (.bool (mayB d i)) ∧ w = w' := by
  by_cases h0 : d = 0
  · subst h0
    go_enter Try.func38, Try.ntmps38
    go_wp2
    go_ret
    exact ⟨by simp only [mayB, if_true]; exact congrArg (fun b => Ending.returned (.bool b)) (by rw [Bool.eq_iff_iff]; simp), rfl⟩
  · have h1 : (d == 0) = false := by simpa using h0
    by_cases h9 : i < 9
    · have h9' : decide ((i : Int) < 9) = true := by simp; omega
      go_enter Try.func38, Try.ntmps38
      go_wp2
      go_ret
      exact ⟨by simp [mayB, h0, h9], rfl⟩
    · have h9' : decide ((i : Int) < 9) = false := by simp; omega
      go_enter Try.func38, Try.ntmps38
      go_wp2
      go_ret
      exact ⟨by simp [mayB, h0, h9], rfl⟩

/-- The three results of varint.Take. -/
def tk (r : Nat × Nat × Nat) : Ending := .returned (.tuple #[.int .u64 (r.1 : Int), .int .i64 (r.2.1 : Int), .int .i64 (r.2.2 : Int)])

theorem or_word (bs : List Int) (k : Nat) (hk : k < 10) (d : Int) (hd : bs.getD k 0 = d) (h0 : 0 ≤ d) : bits BinOp.or IntKind.u64 (vacc bs k : Int) (IntKind.u64.wrap (d % 128 * 2 ^ (7 * k))) = (vacc bs (k + 1) : Int) := by
  obtain ⟨m, rfl⟩ : ∃ m : Nat, d = m := ⟨d.toNat, by omega⟩
  have e : IntKind.u64.wrap ((m : Int) % 128 * 2 ^ (7 * k)) = ((m % 128 * 2 ^ (7 * k) % 18446744073709551616 : Nat) : Int) := by
    rw [IntKind.wrap_u64, Int.natCast_emod, Int.natCast_mul, Int.natCast_emod, Int.natCast_pow]; rfl
  have h1 : vacc bs k < 18446744073709551616 := Nat.mod_lt _ (by omega)
  rw [e, bits_or_u64_nat _ _ h1 (Nat.mod_lt _ (by omega)), ← vacc_step bs k hk, hd, Int.toNat_natCast]

theorem tk_mk {x y z : Int} {r : Nat × Nat × Nat} (h1 : x = r.1) (h2 : y = r.2.1) (h3 : z = r.2.2) : Ending.returned (.tuple #[.int .u64 x, .int .i64 y, .int .i64 z]) = tk r := by rw [h1, h2, h3]; rfl

set_option maxHeartbeats 1000000 in
theorem take_some (b off : Nat) (bs : List Int) (hbs : ∀ x ∈ bs, 0 ≤ x ∧ x ≤ 255) (cap : Nat) (w : World) (hlen : bs.length ≤ maxLen) (hc : ∀ j, j < bs.length → w.cell? ⟨b, off + j, none⟩ = some (.int .u8 (bs.getD j 0))) :
    Calls Try.prog 35 #[.slice (some ⟨b, off, none⟩) bs.length cap] w fun e w' => e = tk (vtake bs) ∧ w = w' := by
  unfold maxLen at hlen
  have HC := Lib.hid hc
  clear hc
  rcases (by omega : bs.length < 10 ∨ (10 ≤ bs.length ∧ bs.length ≤ 10) ∨ 10 < bs.length) with h10 | ⟨h10, h10'⟩ | h10
  all_goals
    go_enter Try.func35, Try.ntmps35
    go_wp2
    go_loop [5, 10] (fun n i => ∃ k : Nat, k ≤ bs.length ∧ k ≤ 10 ∧ i = .int .i64 k ∧ n = .int .u64 (vacc bs k : Int) ∧ Hid (∀ j, j < k → 128 ≤ bs.getD j 0)) (fun _ i => 10 - (intOf i).toNat)
    case atStart => exact ⟨0, by omega, by omega, rfl, rfl, fun j h => absurd h (by omega)⟩
    case round =>
      obtain ⟨k, hk, hk10, rfl, rfl, Hj⟩ := hrel
      by_cases hlt : k < bs.length ∧ k < 10
      · obtain ⟨hl1, hl2⟩ := hlt
        have hcell : w.cell? ⟨b, off + k, none⟩ = some (.int .u8 (bs.getD k 0)) := HC.out k hl1
        have hb := hbs (bs.getD k 0) (by rw [List.getD_eq_getElem?_getD, List.getElem?_eq_getElem hl1]; exact List.getElem_mem hl1)
        obtain ⟨d, hd⟩ : ∃ d, bs.getD k 0 = d := ⟨_, rfl⟩
        rw [hd] at hcell hb
        have HO := Lib.hid (or_word bs k hl2 d hd hb.1)
        have HD := Lib.hid hd
        clear hd hbs
        by_cases hge : 128 ≤ d
        · go_wp2_with fail
          go_round
          case rel =>
            refine ⟨k + 1, by omega, by omega, by go_num, by rw [HO.out], fun j h => ?_⟩
            rcases Nat.lt_or_ge j k with h' | h'
            · exact Hj.out j h'
            · obtain rfl : j = k := by omega
              rw [HD.out]; exact hge
          case measure => simp [intOf]; omega
        · have hmay := mayEnd_any d k w
          by_cases hm : mayB d k = true
          · have HM := Lib.hid hm
            rw [hm] at hmay
            clear hm
            go_wp2_with (go_at_call 38; refine hmay.mono ?_; clear hmay; rintro e w' ⟨rfl, rfl⟩)
            go_ret3
            refine ⟨?_, rfl⟩
            have hm := HM.out
            rw [← HD.out] at hm hb hge
            rw [vtake_ok Hj.out hl1 hl2 (by omega) hm, ← vacc_ok bs k hl2 hb.1 (by omega) hm]
            exact tk_mk HO.out rfl rfl
          · have hm' : mayB d k = false := by simpa using hm
            have HM := Lib.hid hm'
            rw [hm'] at hmay
            clear hm hm'
            go_wp2_with (go_at_call 38; refine hmay.mono ?_; clear hmay; rintro e w' ⟨rfl, rfl⟩)
            go_ret3
            refine ⟨?_, rfl⟩
            have hm := HM.out
            rw [← HD.out] at hm hb hge
            rw [vtake_form Hj.out hl1 hl2 (by omega) hm]
            rfl
      · have hlt' : bs.length ≤ k ∨ 10 ≤ k := by omega
        go_wp2
        go_ret3
        refine ⟨?_, rfl⟩
        first
          | (rw [vtake_short Hj.out hlt (by omega)]; rfl)
          | (rw [vtake_long Hj.out hlt (by omega)]; rfl)

theorem take_nil (A : Option Addr) (cap : Nat) (w : World) : Calls Try.prog 35 #[.slice A 0 cap] w fun e w' => e = tk (vtake []) ∧ w = w' := by
  go_enter Try.func35, Try.ntmps35
  go_wp2
  go_loop [5, 10] (fun n i => i = .int .i64 0 ∧ n = .int .u64 0) (fun _ i => 10 - (intOf i).toNat)
  case atStart => exact ⟨rfl, rfl⟩
  case round =>
    obtain ⟨rfl, rfl⟩ := hrel
    go_wp2
    go_ret3
    exact ⟨rfl, rfl⟩

end Go.Proofs.Ytemplngmkpldeaa
