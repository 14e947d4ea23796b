/- The document's own answers: skylightref01.Put, end, Take. -/
import Derived.WalkKit
import Derived.OwnWalk
import Derived.LoopTactic
import Derived.Test.YtemplngmkpldeaaBytes
namespace Go.Proofs.Ytemplngmkpldeaa
open Go.RowKit Go.Proofs.Vm

set_option maxRecDepth 100000 in
set_option maxHeartbeats 1000000 in
theorem refPut_any : ∀ (x : Nat), x < 18446744073709551616 → ∀ w : World,
    Calls Try.prog 28 #[.int .u64 x] w fun e w' => ∃ v, e = .returned v ∧ w'.ownsRow w.heap.size 5 1 v (vput x).length ((vput x).map (Value.int .u8)) ∧ Below w.heap.size w w' := by
  intro x
  induction x using Nat.strongRecOn with
  | _ x ih =>
    intro hx w
    by_cases hlt : x < 128
    · have HV := Lib.hid (vput_lt hlt)
      clear ih hx
      go_enter Try.func28, Try.ntmps28
      go_wp2
      go_ret
      refine ⟨_, rfl, ?_, (Below.refl _ w).alloc (Nat.le_refl _) _⟩
      rw [HV.out]
      exact World.ownsRow_lit w #[.int .u8 x] 1 (Nat.le_refl _) (by decide) rfl
    · have HV := Lib.hid (vput_ge hlt)
      have hc0 := ih (x / 128) (by omega) (by omega)
      rw [show ((x / 128 : Nat) : Int) = (x : Int) / 128 from Int.natCast_ediv x 128] at hc0
      have hc := Lib.hid hc0
      clear hc0
      have hl : (vput (x / 128)).length ≤ 10 := vput_len10 _ (by omega)
      clear ih
      have b1 : (x : Int) ≤ 18446744073709551615 := by omega
      clear hx
      go_enter Try.func28, Try.ntmps28
      go_wp2_with (first
        | (go_at_call 28; with_reducible refine (hc.out _).mono ?_; clear hc; rintro e w1 ⟨v1, rfl, hown1, hb1⟩; have H1 := Lib.hid hown1; have HB1 := Lib.hid hb1; clear hown1 hb1)
        | (at_builtin; refine wpList_app _ rfl (.tmp 14) (.tmp 17) rfl w.heap.size _ _ [128 + (x : Int) % 128] (vput (x / 128)) _ rfl (ownsRow_below (World.ownsRow_lit w #[.int .u8 (128 + (x : Int) % 128)] 1 (Nat.le_refl _) (by decide) rfl) HB1.out) rfl (Holds.of_own H1.out) (by simp; omega) (Nat.le_trans (by simp) HB1.out.size) ?_; intro v2 w2 hown2 hg2; have H2 := Lib.hid hown2; have HG2 := Lib.hid ((((Below.refl w.heap.size w).alloc (Nat.le_refl _) _).trans (HB1.out.mono (by simp))).grown hg2 (Nat.le_trans (by simp) HB1.out.size) (fun j ej => by cases ej; exact Nat.le_refl _)); clear hown2 hg2))
      go_ret
      refine ⟨_, rfl, ?_, HG2.out⟩
      rw [HV.out]
      have e : ((x % 128 + 128 : Nat) : Int) = 128 + (x : Int) % 128 := by omega
      rw [e]
      exact H2.out

/-- skylightref01.Put: a slice that holds the number's bytes, in new memory. -/
theorem refPut_holds (x : Nat) (hx : x < 18446744073709551616) (w : World) :
    Calls Try.prog 28 #[.int .u64 x] w fun e w' => ∃ v, e = .returned v ∧ Holds w' w'.heap.size v (vput x) ∧ Below w.heap.size w w' :=
  (refPut_any x hx w).mono fun _ _ ⟨v, he, ho, hb⟩ => ⟨v, he, Holds.of_own ho, hb⟩

/-- The place, or -1. -/
def endInt (bs : List Int) : Int := match vend bs with | some i => (i : Int) | none => -1

set_option maxRecDepth 100000 in
set_option maxHeartbeats 1000000 in
theorem end_some (b off : Nat) (bs : List Int) (hbs : ∀ x ∈ bs, 0 ≤ x ∧ x ≤ 255) (cap : Nat) (w : World) (hlen : bs.length ≤ maxLen) (hc : ∀ j, j < bs.length → w.cell? ⟨b, off + j, none⟩ = some (.int .u8 (bs.getD j 0))) :
    Calls Try.prog 36 #[.slice (some ⟨b, off, none⟩) bs.length cap] w fun e w' => e = .returned (.int .i64 (endInt bs)) ∧ w = w' := by
  unfold maxLen at hlen
  have HC := Lib.hid hc
  have HBD := Lib.hid hbs
  clear hc hbs
  go_enter Try.func36, Try.ntmps36
  go_wp2
  go_loop [3] (fun i => ∃ k : Nat, k ≤ bs.length ∧ k ≤ 10 ∧ i = .int .i64 k ∧ Hid (∀ j, j < k → 128 ≤ bs.getD j 0)) (fun i => 10 - (intOf i).toNat)
  case atStart => exact ⟨0, by omega, by omega, rfl, fun j h => absurd h (by omega)⟩
  case round =>
    obtain ⟨k, hk, hk10, rfl, Hj⟩ := hrel
    by_cases hl1 : k < bs.length
    · have hl1' : decide ((k : Int) < (bs.length : Int)) = true := by simp; omega
      by_cases hl2 : k < 10
      · have hcell : w.cell? ⟨b, off + k, none⟩ = some (.int .u8 (bs.getD k 0)) := HC.out k hl1
        obtain ⟨d, hd⟩ : ∃ d, bs.getD k 0 = d := ⟨_, rfl⟩
        rw [hd] at hcell
        have HD := Lib.hid hd
        clear hd
        by_cases hge : 128 ≤ d
        · go_wp2
          go_round
          case rel =>
            refine ⟨k + 1, by omega, by omega, by go_num, fun j h => ?_⟩
            rcases Nat.lt_or_ge j k with h' | h'
            · exact Hj.out j h'
            · obtain rfl : j = k := by omega
              rw [HD.out]; exact hge
          case measure => simp [intOf]; omega
        · go_wp2
          go_ret
          refine ⟨?_, rfl⟩
          have : vend bs = some k := vend_some Hj.out hl1 hl2 (by rw [HD.out]; omega)
          unfold endInt
          rw [this]
          rfl
      · go_wp2
        go_ret
        refine ⟨?_, rfl⟩
        have : vend bs = none := vend_none Hj.out (by omega)
        unfold endInt
        rw [this]
        rfl
    · have hl1' : decide ((k : Int) < (bs.length : Int)) = false := by simp; omega
      go_wp2
      go_ret
      refine ⟨?_, rfl⟩
      have : vend bs = none := vend_none Hj.out (by omega)
      unfold endInt
      rw [this]
      rfl

theorem end_nil (A : Option Addr) (cap : Nat) (w : World) : Calls Try.prog 36 #[.slice A 0 cap] w fun e w' => e = .returned (.int .i64 (-1)) ∧ w = w' := by
  go_enter Try.func36, Try.ntmps36
  go_wp2
  go_loop [3] (fun i => i = .int .i64 0) (fun i => 10 - (intOf i).toNat)
  case atStart => rfl
  case round =>
    subst hrel
    go_wp2
    go_ret
    exact ⟨rfl, rfl⟩

theorem refTake_nil (A : Option Addr) (cap : Nat) (w : World) : Calls Try.prog 32 #[.slice A 0 cap] w fun e w' => e = tk (vtake []) ∧ w = w' := by
  go_enter Try.func32, Try.ntmps32
  go_wp2_with (go_at_call 36; with_reducible refine (end_nil _ _ _).mono ?_; rintro e w' ⟨rfl, rfl⟩)
  go_ret3
  exact ⟨rfl, rfl⟩

theorem vtake_none {bs : List Int} (h : vend bs = none) : vtake bs = if bs.length < 10 then (0, 0, 3) else (0, 0, 2) := by unfold vtake; rw [h]
theorem vtake_some {bs : List Int} {i : Nat} (h : vend bs = some i) : vtake bs = if mayB (bs.getD i 0) i then (vsum bs (i + 1), i + 1, 0) else (0, 0, 2) := by unfold vtake; rw [h]
theorem vend_spec {bs : List Int} {i : Nat} (h : vend bs = some i) : i < bs.length ∧ i < 10 ∧ bs.getD i 0 < 128 := by
  unfold vend at h
  rw [List.find?_range_eq_some] at h
  obtain ⟨h1, h2, _⟩ := h
  simp only [decide_eq_true_eq] at h1
  simp only [List.mem_range] at h2
  exact ⟨by omega, by omega, h1⟩

set_option maxRecDepth 100000 in
set_option maxHeartbeats 2000000 in
theorem refTake_some (b off : Nat) (bs : List Int) (hbs : ∀ x ∈ bs, 0 ≤ x ∧ x ≤ 255) (cap : Nat) (w : World) (hlen : bs.length ≤ maxLen) (hc : ∀ j, j < bs.length → w.cell? ⟨b, off + j, none⟩ = some (.int .u8 (bs.getD j 0))) :
    Calls Try.prog 32 #[.slice (some ⟨b, off, none⟩) bs.length cap] w fun e w' => e = tk (vtake bs) ∧ w = w' := by
  have HE := Lib.hid (end_some b off bs hbs cap w hlen hc)
  unfold maxLen at hlen
  have HC := Lib.hid hc
  have HBD := Lib.hid hbs
  clear hc hbs
  cases hv : vend bs with
  | none =>
    have he : endInt bs = -1 := by unfold endInt; rw [hv]
    rw [he] at HE
    have HV := Lib.hid (vtake_none hv)
    clear hv he
    by_cases h10 : bs.length < 10
    · have h10' : decide (10 ≤ (bs.length : Int)) = false := by simp; omega
      go_enter Try.func32, Try.ntmps32
      go_wp2_with (go_at_call 36; with_reducible refine HE.out.mono ?_; rintro e w' ⟨rfl, rfl⟩)
      go_ret3
      refine ⟨?_, rfl⟩
      rw [HV.out, if_pos h10]
      rfl
    · have h10' : decide (10 ≤ (bs.length : Int)) = true := by simp; omega
      go_enter Try.func32, Try.ntmps32
      go_wp2_with (go_at_call 36; with_reducible refine HE.out.mono ?_; rintro e w' ⟨rfl, rfl⟩)
      go_ret3
      refine ⟨?_, rfl⟩
      rw [HV.out, if_neg h10]
      rfl
  | some i =>
    have he : endInt bs = i := by unfold endInt; rw [hv]
    rw [he] at HE
    obtain ⟨hi1, hi2, hi3⟩ := vend_spec hv
    have HV := Lib.hid (vtake_some hv)
    clear hv he
    have hcell : w.cell? ⟨b, off + i, none⟩ = some (.int .u8 (bs.getD i 0)) := HC.out i hi1
    have hb := HBD.out (bs.getD i 0) (by rw [List.getD_eq_getElem?_getD, List.getElem?_eq_getElem hi1]; exact List.getElem_mem hi1)
    have HOK := Lib.hid (fun hm => vacc_ok bs i hi2 hb.1 hi3 hm)
    obtain ⟨d, hd⟩ : ∃ d, bs.getD i 0 = d := ⟨_, rfl⟩
    rw [hd] at hcell hb hi3 HV HOK
    have HD := Lib.hid hd
    clear hd
    by_cases hm : mayB d i = true
    · have hV : vsum bs (i + 1) < 18446744073709551616 := by
        rw [← HOK.out hm]; exact Nat.mod_lt _ (by omega)
      rw [hm, if_pos rfl] at HV
      have HST := Lib.hid (fun (j : Nat) (h : j ≤ i) => vsum_step bs h)
      have HTOP := Lib.hid (vsum_top bs i)
      clear HOK
      obtain ⟨V, hVe⟩ : ∃ V, vsum bs (i + 1) = V := ⟨_, rfl⟩
      rw [hVe] at hV HV HST HTOP
      clear hVe
      have b1 : (V : Int) ≤ 18446744073709551615 := by omega
      clear hV
      have hcase : ((d == 0) = true ∧ i ≤ 0) ∨ ((d == 0) = false ∧ ((i : Int) == 9) = true ∧ d ≤ 1) ∨ ((d == 0) = false ∧ ((i : Int) == 9) = false) := by
        unfold mayB at hm
        by_cases h0 : d = 0
        · simp [h0] at hm; exact .inl ⟨by simp [h0], by omega⟩
        · rw [if_neg h0] at hm
          simp only [Bool.or_eq_true, decide_eq_true_eq] at hm
          by_cases h9 : i = 9
          · exact .inr (.inl ⟨by simpa using h0, by simp [h9], by omega⟩)
          · exact .inr (.inr ⟨by simpa using h0, by simp; omega⟩)
      clear hm
      rcases hcase with ⟨c1, c2⟩ | ⟨c1, c2, c3⟩ | ⟨c1, c2⟩
      case' inl => have c3 : decide ((0 : Int) < (i : Int)) = false := by simp; omega
      case' inl => have c4 : ((i : Int) == 9) = false := by simp; omega
      case' inr.inl => have c4 : decide (1 < d) = false := by simp; omega
      all_goals
        go_enter Try.func32, Try.ntmps32
        go_wp2_with (go_at_call 36; with_reducible refine HE.out.mono ?_; rintro e w' ⟨rfl, rfl⟩)
        go_loop [6, 7] (fun n k => ∃ K : Nat, K ≤ i + 1 ∧ k = .int .i64 ((K : Int) - 1) ∧ n = .int .u64 ((V / 128 ^ K : Nat) : Int)) (fun _ k => (intOf k + 1).toNat)
        case atStart => exact ⟨i + 1, by omega, by go_num, by rw [HTOP.out]; rfl⟩
        case round =>
          obtain ⟨K, hK, rfl, rfl⟩ := hrel
          cases K with
          | zero =>
            go_wp2
            go_ret3
            refine ⟨?_, rfl⟩
            rw [HV.out]
            exact tk_mk (by simp) (by simp) rfl
          | succ j =>
            have hj : j ≤ i := by omega
            have hcj : w.cell? ⟨b, off + j, none⟩ = some (.int .u8 (bs.getD j 0)) := HC.out j (by omega)
            have hst := HST.out j hj
            have hbj := HBD.out (bs.getD j 0) (by rw [List.getD_eq_getElem?_getD, List.getElem?_eq_getElem (by omega)]; exact List.getElem_mem _)
            have hle : V / 128 ^ j ≤ V := Nat.div_le_self _ _
            obtain ⟨x, hx⟩ : ∃ x, bs.getD j 0 = x := ⟨_, rfl⟩
            rw [hx] at hcj hst hbj
            obtain ⟨N, hN⟩ : ∃ N, V / 128 ^ (j + 1) = N := ⟨_, rfl⟩
            rw [hN] at hst ⊢
            obtain ⟨M, hM⟩ : ∃ M, V / 128 ^ j = M := ⟨_, rfl⟩
            rw [hM] at hst hle
            have hM2 := Lib.hid hM
            clear hx hN hM
            have b2 : 128 * (N : Int) + x % 128 ≤ 18446744073709551615 := by omega
            have HS := Lib.hid hst
            clear hst
            have e1 : ((j + 1 : Nat) : Int) - 1 = (j : Int) := by omega
            rw [e1]
            clear e1
            go_wp2
            go_round
            case rel => exact ⟨j, by omega, by go_num, by rw [hM2.out, ← HS.out]; go_num⟩
            case measure => simp [intOf]
    · have hm' : mayB d i = false := by simpa using hm
      rw [hm', if_neg (by simp)] at HV
      clear HOK
      have hcase : ((d == 0) = true ∧ 0 < i) ∨ ((d == 0) = false ∧ ((i : Int) == 9) = true ∧ 1 < d) := by
        unfold mayB at hm'
        by_cases h0 : d = 0
        · simp [h0] at hm'; exact .inl ⟨by simp [h0], by omega⟩
        · rw [if_neg h0] at hm'
          simp only [Bool.or_eq_false_iff, decide_eq_false_iff_not] at hm'
          exact .inr ⟨by simpa using h0, by simp; omega, by omega⟩
      clear hm hm'
      rcases hcase with ⟨c1, c2⟩ | ⟨c1, c2, c3⟩
      case' inl => have c3 : decide ((0 : Int) < (i : Int)) = true := by simp; omega
      case' inr => have c4 : decide (1 < d) = true := by simp; omega
      all_goals
        go_enter Try.func32, Try.ntmps32
        go_wp2_with (go_at_call 36; with_reducible refine HE.out.mono ?_; rintro e w' ⟨rfl, rfl⟩)
        go_ret3
        refine ⟨?_, rfl⟩
        rw [HV.out]
        rfl

/-- skylightref01.Take of bytes, wherever they lie. -/
theorem refTake_any {w : World} {B : Nat} {v : Value} {bs : List Int} (h : Holds w B v bs) (hb : ∀ x ∈ bs, 0 ≤ x ∧ x ≤ 255) : Calls Try.prog 32 #[v] w fun e w' => e = tk (vtake bs) ∧ w = w' := by
  obtain ⟨A, cap, rfl, h1, h2, h3⟩ := h
  rcases h3 with rfl | ⟨b, off, _, rfl, hc⟩
  · exact refTake_nil A cap w
  · exact refTake_some b off bs hb cap w (by omega) hc

end Go.Proofs.Ytemplngmkpldeaa
