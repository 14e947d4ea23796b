/-
  'skylight/skylightlaw04.HashRows' returns true for every input, and the input reads afterwards as it read before. Conditions: none.
-/
import Derived.Test.YtgaapahhmpiibaaRows
import Derived.WalkKit
import Derived.ProofKit
import Derived.OpenShut
import Derived.ShutString
import Derived.ChangeOld
import Derived.Below
import Derived.Test.YtgaapahhmpiibaaOpen
import Derived.Test.YtgaapahhmpiibaaHAwake
namespace Go.Proofs.Ytgaapahhmpiibaa.hashRows
open Go.Proofs Go.Proofs.Wm Go.Proofs.Rf
open Go.ChangeShapes Go.WideShapes Go.ChangeAt Go.RowKit
open Go.ChangeMaps (open_string shut_string)
set_option linter.unusedVariables false

theorem own : ownKnob Try.prog.godebug = none := by kernel_rfl
theorem laidOut : laidOutB Try.prog = true := by kernel_rfl

/-- A slice of integers that came in: nil, or a row of cells of its capacity, each fitting its kind. -/
def IsRow (k : IntKind) (w : World) (a : Option Addr) (len cap : Nat) (zs : List Int) : Prop :=
  (a = none ∧ len = 0 ∧ cap = 0 ∧ zs = []) ∨
  ∃ x, a = some x ∧ len ≤ cap ∧ cap ≤ maxLen ∧ zs.length = cap ∧ (∀ i, i < zs.length → w.cell? (x.add i) = some (.int k (zs.getD i 0))) ∧ ∀ n ∈ zs, (Lit.int k n).wf = true

open Go.Proofs.Rf
theorem seeds_of {w : World} {A : Option Addr} {len cap : Nat} {z : Nat → Nat → Int} (h : Op.FlatRow [.u64, .u64] w A len cap z) {W : World} (hB : Below w.heap.size w W) : Seeds W W.heap.size A len (fun j => (z j 0).toNat) (fun j => (z j 1).toNat) := by
  rcases h.2.2 with h | ⟨b, off, hA, hb, hc⟩
  · exact .inl h
  · refine .inr ⟨b, off, hA, Nat.lt_of_lt_of_le hb hB.size, fun j hj => ?_⟩
    obtain ⟨q0, f0⟩ := hc j hj 0 .u64 rfl
    obtain ⟨q1, f1⟩ := hc j hj 1 .u64 rfl
    obtain ⟨l0, l1⟩ := bounds_u64 f0
    obtain ⟨m0, m1⟩ := bounds_u64 f1
    have e0 : ((z j 0).toNat : Int) = z j 0 := Int.toNat_of_nonneg l0
    have e1 : ((z j 1).toNat : Int) = z j 1 := Int.toNat_of_nonneg m0
    refine ⟨?_, ?_, show (z j 0).toNat < 18446744073709551616 by omega, show (z j 1).toNat < 18446744073709551616 by omega⟩
    · show _ = some (Value.int .u64 ((z j 0).toNat : Int))
      rw [e0, hB.cell (p := ⟨b, off + j * 2, none⟩) hb]
      exact q0
    · show _ = some (Value.int .u64 ((z j 1).toNat : Int))
      rw [e1, hB.cell (p := ⟨b, off + j * 2 + 1, none⟩) hb]
      exact q1
theorem row_at {W : World} {b len : Nat} {f : Nat → Value} {t : TypeId} (h : W.heap[b]? = some (.cells ((List.range len).map f).toArray t)) (j : Nat) (hj : j < len) : W.cell? ⟨b, j, none⟩ = some (f j) := by
  simp [World.cell?, h, hj]

set_option maxRecDepth 100000 in
set_option maxHeartbeats 4000000 in
theorem walk (a0 : Option Addr) (len0 cap0 : Nat) (z0 : Nat → Nat → Int) (a1 : Int) (a2 : Int) (w : World) (w0 : Op.FlatRow [.u64, .u64] w a0 len0 cap0 z0) (w1 : (Lit.int .u64 a1).wf = true) (w2 : (Lit.int .i64 a2).wf = true) :
    Calls Try.prog 4 #[.slice a0 len0 cap0, .int .u64 a1, .int .i64 a2] w fun e w' => e = .returned (.bool true) ∧ Below w.heap.size w w' := by
  obtain ⟨ba1_0, ba1_1⟩ := bounds_u64 w1
  obtain ⟨x, rfl⟩ : ∃ m : Nat, a1 = m := ⟨a1.toNat, by omega⟩
  have hx : x < 18446744073709551616 := by omega
  clear w1 ba1_0 ba1_1
  obtain ⟨k0, k1⟩ := bounds_i64 w2
  clear w2
  have HF := Lib.hid w0
  have hm := w0.2.1
  have hlc := w0.1
  unfold maxLen at hm
  clear w0
  by_cases h20 : 20 < len0
  · go_enter Try.func4, Try.ntmps4
    go_wp2_with (go_at_call 8; refine (awake_any _).mono ?_; rintro e wn ⟨rfl, hn⟩; have hB := hn; clear hn)
    go_ret
    exact ⟨rfl, hB⟩
  · go_enter Try.func4, Try.ntmps4
    go_wp2_with (first
      | (go_at_call 8; refine (awake_any _).mono ?_; rintro e wn ⟨rfl, hn⟩; have hB := hn; clear hn)
      | (go_at_call 15; (with_reducible refine (columns_any a0 len0 cap0 _ _ x hx a2 k0 k1 (by omega) _ (seeds_of HF.out hB)).mono ?_); rintro e wc ⟨rfl, hrow, hn⟩; have HRW := Lib.hid hrow; have HBC := Lib.hid (hB.trans (hn.mono hB.size)); have HWN := Lib.hid hB.size; obtain ⟨rb, hrb⟩ : ∃ rb, wn.heap.size = rb := ⟨_, rfl⟩; rw [hrb] at HRW HWN; rw [hrb]; clear hrow hn hB hrb))
    go_loopw [9] (fun i wr => ∃ j : Nat, j ≤ len0 ∧ i = .int .i64 j ∧ Hid (wr.heap[rb]? = some (.cells ((List.range len0).map fun j => Value.int .i64 (col ((z0 j 0).toNat) ((z0 j 1).toNat) x a2)).toArray 3)) ∧ Hid (Below w.heap.size w wr)) (fun i _ => len0 - (intOf i).toNat)
    case atStart => exact ⟨0, by omega, rfl, HRW, HBC⟩
    case round =>
      obtain ⟨j, hj, rfl, HROW, HBW⟩ := hrel
      by_cases hlt : j < len0
      · rcases seeds_of HF.out HBW.out with h | ⟨b, off, rfl, hb, hc⟩
        · omega
        obtain ⟨q0, q1, l0, l1⟩ := hc j hlt
        have hcc := row_at HROW.out j hlt
        have m1 := rColumn_any ((z0 j 0).toNat) ((z0 j 1).toNat) x l0 l1 hx a2 k0 k1
        dsimp only at q0 q1 hcc
        clear hc l0 l1
        generalize col ((z0 j 0).toNat) ((z0 j 1).toNat) x a2 = c at hcc m1
        generalize (z0 j 0).toNat = sa at q0 m1
        generalize (z0 j 1).toNat = sb at q1 m1
        have M1 := Lib.hid m1
        have HBL := Lib.hid hb
        have HRB := Lib.hid (show rb < wr.heap.size from (Array.getElem?_eq_some_iff.1 HROW.out).1)
        clear m1 hb
        go_upto_region 10 with (fail)
        refine region_all (fr := ?frA) (fun i us W => match i with
            | 0 => us 0 = .slice (some ⟨rb, 0, none⟩) len0 len0
            | 1 => us 1 = .int .i64 j
            | 2 => us 2 = .pointer (some ⟨rb, j, none⟩)
            | 3 => us 3 = .int .i64 c
            | 4 => us 4 = .slice (some ⟨b, off, none⟩) len0 cap0
            | 5 => us 5 = .int .i64 j
            | 6 => us 6 = .pointer (some ⟨b, off + j * 2, none⟩)
            | 7 => us 7 = .agg #[.int .u64 sa, .int .u64 sb]
            | 8 => us 8 = .int .u64 x
            | 9 => us 9 = .int .i64 a2
            | 10 => us 10 = .int .i64 c
            | 11 => us 11 = .bool false
            | _ => True) (fun _ W W' => Grows W W') (fun W => Below wr.heap.size wr W) rfl ?hBA ?hfrA ?hlocA ?hstA ?hG0A ?hGA ?hopA ?hendA
        case hBA => kernel_rfl
        case hfrA =>
          intro us
          simp only [List.length_cons, List.length_nil, Nat.zero_add, Nat.reduceAdd, putO, dstO]
          go_simp
          rfl
        case hlocA =>
          intro i us us' W h hf
          match i with
          | 0 =>
            have e0 := h 0 (.inl rfl)
            try dsimp only at hf ⊢
            rw [e0] at hf
            exact hf
          | 1 =>
            have e1 := h 1 (.inl rfl)
            try dsimp only at hf ⊢
            rw [e1] at hf
            exact hf
          | 2 =>
            have e2 := h 2 (.inl rfl)
            try dsimp only at hf ⊢
            rw [e2] at hf
            exact hf
          | 3 =>
            have e3 := h 3 (.inl rfl)
            try dsimp only at hf ⊢
            rw [e3] at hf
            exact hf
          | 4 =>
            have e4 := h 4 (.inl rfl)
            try dsimp only at hf ⊢
            rw [e4] at hf
            exact hf
          | 5 =>
            have e5 := h 5 (.inl rfl)
            try dsimp only at hf ⊢
            rw [e5] at hf
            exact hf
          | 6 =>
            have e6 := h 6 (.inl rfl)
            try dsimp only at hf ⊢
            rw [e6] at hf
            exact hf
          | 7 =>
            have e7 := h 7 (.inl rfl)
            try dsimp only at hf ⊢
            rw [e7] at hf
            exact hf
          | 8 =>
            have e8 := h 8 (.inl rfl)
            try dsimp only at hf ⊢
            rw [e8] at hf
            exact hf
          | 9 =>
            have e9 := h 9 (.inl rfl)
            try dsimp only at hf ⊢
            rw [e9] at hf
            exact hf
          | 10 =>
            have e10 := h 10 (.inl rfl)
            try dsimp only at hf ⊢
            rw [e10] at hf
            exact hf
          | 11 =>
            have e11 := h 11 (.inl rfl)
            try dsimp only at hf ⊢
            rw [e11] at hf
            exact hf
          | n + 12 => trivial
        case hstA =>
          intro i j us W W' hne hw hi hj hE hf
          match i with
          | 0 => exact hf
          | 1 => exact hf
          | 2 => exact hf
          | 3 => exact hf
          | 4 => exact hf
          | 5 => exact hf
          | 6 => exact hf
          | 7 => exact hf
          | 8 => exact hf
          | 9 => exact hf
          | 10 => exact hf
          | 11 => exact hf
          | n + 12 => trivial
        case hG0A =>
          exact (Below.refl _ wr).drew
        case hGA =>
          intro j W W' hE hg
          exact hg.trans (hE.mono hg.size)
        case hopA =>
          intro i hi us W hg hd hq
          match i, hi with
          | 0, _ =>
            clear hd hq
            refine all_value rfl rfl (.slice (some ⟨rb, 0, none⟩) len0 len0) W (by go_simp) ?_ ?_
            · exact Grows.refl _
            · rfl
          | 1, _ =>
            clear hd hq
            refine all_value rfl rfl (.int .i64 j) W (by go_simp) ?_ ?_
            · exact Grows.refl _
            · rfl
          | 2, _ =>
            have h0 : us 0 = .slice (some ⟨rb, 0, none⟩) len0 len0 := hd 0 (by kernel_rfl)
            have h1 : us 1 = .int .i64 j := hd 1 (by kernel_rfl)
            clear hd hq
            refine all_value rfl rfl (.pointer (some ⟨rb, j, none⟩)) W (by go_simp) ?_ ?_
            · exact Grows.refl _
            · rfl
          | 3, _ =>
            have h2 : us 2 = .pointer (some ⟨rb, j, none⟩) := hd 2 (by kernel_rfl)
            clear hd hq
            have c0 := (hg.cell (p := ⟨rb, j, none⟩) HRB.out).trans hcc
            refine all_value rfl rfl (.int .i64 c) W (by go_simp) ?_ ?_
            · exact Grows.refl _
            · rfl
          | 4, _ =>
            clear hd hq
            refine all_value rfl rfl (.slice (some ⟨b, off, none⟩) len0 cap0) W (by go_simp) ?_ ?_
            · exact Grows.refl _
            · rfl
          | 5, _ =>
            clear hd hq
            refine all_value rfl rfl (.int .i64 j) W (by go_simp) ?_ ?_
            · exact Grows.refl _
            · rfl
          | 6, _ =>
            have h4 : us 4 = .slice (some ⟨b, off, none⟩) len0 cap0 := hd 4 (by kernel_rfl)
            have h5 : us 5 = .int .i64 j := hd 5 (by kernel_rfl)
            clear hd hq
            refine all_value rfl rfl (.pointer (some ⟨b, off + j * 2, none⟩)) W (by go_simp) ?_ ?_
            · exact Grows.refl _
            · rfl
          | 7, _ =>
            have h6 : us 6 = .pointer (some ⟨b, off + j * 2, none⟩) := hd 6 (by kernel_rfl)
            clear hd hq
            have c0 := (hg.cell (p := ⟨b, off + j * 2, none⟩) HBL.out).trans q0
            have c1 := (hg.cell (p := ⟨b, off + j * 2 + 1, none⟩) HBL.out).trans q1
            refine all_value rfl rfl (.agg #[.int .u64 sa, .int .u64 sb]) W (by go_simp) ?_ ?_
            · exact Grows.refl _
            · rfl
          | 8, _ =>
            clear hd hq
            refine all_value rfl rfl (.int .u64 x) W (by go_simp) ?_ ?_
            · exact Grows.refl _
            · rfl
          | 9, _ =>
            clear hd hq
            refine all_value rfl rfl (.int .i64 a2) W (by go_simp) ?_ ?_
            · exact Grows.refl _
            · rfl
          | 10, _ =>
            have h7 : us 7 = .agg #[.int .u64 sa, .int .u64 sb] := hd 7 (by kernel_rfl)
            have h8 : us 8 = .int .u64 x := hd 8 (by kernel_rfl)
            have h9 : us 9 = .int .i64 a2 := hd 9 (by kernel_rfl)
            clear hd hq
            refine all_call rfl rfl 10 #[.agg #[.int .u64 sa, .int .u64 sb], .int .u64 x, .int .i64 a2] (by go_simp) ?_
            exact (M1.out _).mono fun _ W' ⟨he, hb⟩ => ⟨_, he, hb, rfl⟩
          | 11, _ =>
            have h3 : us 3 = .int .i64 c := hd 3 (by kernel_rfl)
            have h10 : us 10 = .int .i64 c := hd 10 (by kernel_rfl)
            clear hd hq
            refine all_value rfl rfl (.bool false) W (by go_simp) ?_ ?_
            · exact Grows.refl _
            · rfl
          | n + 12, h => exact absurd h (by simp)
        case hendA =>
          intro us W hg hf
          have h11 : us 11 = .bool false := hf 11 (by simp)
          clear hf
          rw [h11]
          have HG := Lib.hid (HBW.out.trans (hg.mono HBW.out.size))
          have HR2 := Lib.hid ((hg.block rb HRB.out).trans HROW.out)
          clear hg h11 hcc q0 q1
          go_wp2
          refine ⟨⟨j + 1, by omega, by go_num, HR2, HG⟩, ?_⟩
          simp [intOf]
          omega
      · clear hj
        go_wp2
        go_ret
        exact ⟨rfl, HBW.out⟩

set_option maxRecDepth 100000 in
theorem lifted (os : Os) (started : os.Started) (H : Type) (enc : TypeId × Value → H) :
    ReturnsInHanded {} Try.checked os 4 .any (Rows.hashRowsSpec.pre6 enc Try.prog Try.f4 Rows.hashRowsRow.domain false) (Rows.hashRowsSpec.post enc Try.prog Try.f4 false true false false) := by
  refine returnsInHanded_of_change (C := Try.checked) own started (by kernel_rfl) Try.func4
    (ChangeSpec.witness6 (enc := enc) (C := Try.checked) false ⟨#[], #[.slice none 0 0, .int .u64 0, .int .i64 0], []⟩ 8 (by kernel_rfl) (by kernel_rfl) (by kernel_rfl) (by kernel_rfl)) ?_
  intro W base args ds gs before hval0 hW hcnd _
  have hval : ∀ (j : Nat) t v, Try.f4.params[j]? = some t → args[j]? = some v → Value.okWide Try.prog W .any base t v := hval0
  have hW' := hW
  obtain ⟨p, q, hA0, hV, rfl, hfz, hnd⟩ := hW
  have hA : DataW.TrodAll enc Try.prog W 0 (fun _ => true) true Try.f4.params.toList args.toList ds p := hA0
  rw [Try.params4] at hA hval
  obtain ⟨v0, vs0, d0, ds0, p0, q0, hargs, rfl, rfl, h0, r0⟩ := trodAll_cons hA
  obtain ⟨v1, vs1, d1, ds1, p1, q1, rfl, rfl, rfl, h1, r1⟩ := trodAll_cons r0
  obtain ⟨v2, vs2, d2, ds2, p2, q2, rfl, rfl, rfl, h2, r2⟩ := trodAll_cons r1
  obtain ⟨rfl, rfl, rfl⟩ := trodAll_nil r2
  obtain rfl : args = #[v0, v1, v2] := by cases args; simp_all
  obtain ⟨rfl, rfl⟩ := trodVars_none hV
  obtain ⟨a0, len0, cap0, rfl⟩ := okWide_slice Try.underlying30 (hval 0 30 v0 rfl rfl)
  have k0 := h0
  have lt0 : ∀ x ∈ p0, x.block < W.heap.size := by obtain ⟨m, hm⟩ := k0; exact DataW.trod_lt m _ _ _ hm
  obtain ⟨z0, w0⟩ := Op.open_flats (f := 9) (ks := [.u64, .u64]) Try.underlying30 (by kernel_rfl) (by kernel_rfl) (by decide) h0
  obtain ⟨a1, rfl, rfl, rfl, w1⟩ := open_int Try.underlying22 (hval 1 22 v1 rfl rfl) h1
  obtain ⟨a2, rfl, rfl, rfl, w2⟩ := open_int Try.underlying3 (hval 2 3 v2 rfl rfl) h2
  clear hA0 hval0
  refine (walk a0 len0 cap0 z0 a1 a2 W w0 w1 w2).mono fun e W' ⟨he, bel⟩ => ?_
  subst he
  exact ⟨_, rfl, _, _, _, [], _, [], hW', trodAll_mk1 (shut_bool Try.underlying4 _), (trodAll_cons_mk (Below.trod laidOut (by kernel_rfl) (of_decide_eq_true (by kernel_rfl)) k0 bel lt0) (trodAll_cons_mk (shut_int Try.underlying22 w1) (trodAll_cons_mk (shut_int Try.underlying3 w2) trodAll_mk0))), rfl, bel.frame _, fun h => by cases h⟩

theorem over : Rows.hashRowsRow.holds Try.pinned (OpenSpec.ofChange Rows.hashRowsSpec) :=
  OpenClaim.holds_of_wide 4 Try.f4 rfl rfl rfl rfl rfl rfl rfl ⟨rfl, rfl, rfl, rfl, rfl⟩ rfl rfl rfl rfl rfl (by kernel_rfl) Try.func4 (by kernel_rfl)
    (of_decide_eq_true (by kernel_rfl)) (by unfold Func.isWrapper; first | (rw [if_pos (by decide +kernel)]; kernel_rfl) | (rw [if_neg (by decide +kernel)]; exact ⟨rfl, rfl⟩))
    (fun os started H enc _ => lifted os started H enc)

/-- The statement. -/
theorem proved : Rows.HashRowsSaid := over
#print axioms proved
end Go.Proofs.Ytgaapahhmpiibaa.hashRows
