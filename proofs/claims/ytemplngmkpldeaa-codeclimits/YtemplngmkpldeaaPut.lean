/- The contracts of varint.digits, its closure, and varint.Put. -/
import Derived.RangeFuncNested
import Derived.RangeFuncBound
import Derived.RangeFuncCalls
import Derived.RangeFuncLeaves
import Derived.RangeFuncBox
import Derived.Shelf.Abstract
import Derived.Shelf.RegionOpen
import Derived.WalkKit
import Derived.OwnWalkIn
import Derived.TacticsInMore
import Derived.LoopNIn
import Derived.LoopIn
import Derived.Lib.Hide
import Derived.Maps.AppendAt
import Derived.Test.YtemplngmkpldeaaProg
import Derived.Test.YtemplngmkpldeaaMath
namespace Go.Proofs.Ytemplngmkpldeaa
open Go.RowKit Go.Shelf Go.Proofs.Vm

attribute [local go_sem] Oper.semAt_some

abbrev encs (p : Int × Bool) : Array Value := #[.int .u8 p.1, .bool p.2]

/-- What is appended for a digit. -/
def vbyteW (p : Int × Bool) : Int := if p.2 then p.1 else IntKind.u8.wrap (p.1 + 128)

theorem vputW_map (n : Nat) : ((vdig n).map fun p => Value.int .u8 (vbyteW p)) = (vput n).map (Value.int .u8) := by
  induction n using Nat.strongRecOn with
  | _ n ih =>
    by_cases h : n < 128
    · rw [vdig_lt h, vput_lt h]; simp [vbyteW]; omega
    · rw [vdig_ge h, vput_ge h, List.map_cons, ih (n / 128) (by omega)]; simp only [vbyteW, List.map_cons, List.cons.injEq, Bool.false_eq_true, if_false, and_true]; rw [IntWalk.u8_in _ (by omega)]; congr 1

set_option maxRecDepth 100000 in
set_option maxHeartbeats 1000000 in
theorem digits1_in (F : Fence) (n : Nat) (h6 : F.fn 37) (hro : F.round = none) (hn : 1 ≤ n) (l Bn : Nat) (n₀ : Nat) (x : Nat) (hx : x < 18446744073709551616) (J Jx : List (Int × Bool) → World → Prop)
    (hY : ∀ pre p W, J pre W → pre.length < (vdig x).length → YieldAt F (n - 1) Try.prog l (encs p) W fun e W' =>
      (e = .returned (.bool true) ∧ J (pre ++ [p]) W' ∧ Below n₀ W W') ∨ (e = .returned (.bool false) ∧ Jx (pre ++ [p]) W'))
    (W : World) (hBn : W.cell? ⟨Bn, 0, none⟩ = some (.int .u64 x)) (h0 : J [] W) :
    CallsIn F n Try.prog 37 #[.func (.yield l) #[] #[], .pointer (some ⟨Bn, 0, none⟩)] W fun e W' => (∃ v, e = .returned v) ∧
      ((∃ ys, ys = vdig x ∧ J ys W') ∨ (∃ pre, pre <+: vdig x ∧ Jx pre W')) := by
  refine callsIn_of_wp Try.func37 rfl h6 ?_ hro
  simp only [Try.ntmps37, List.size_toArray, List.length_cons, List.length_nil, Nat.reduceAdd, Nat.reduceSub, Array.replicate_succ, Array.replicate_zero, List.push_toArray, List.append_toArray, List.nil_append, List.cons_append]
  gi_wp2
  gi_loopw [3] (fun p wr => ∃ (pre : List (Int × Bool)) (r : Nat), p = .int .u64 r ∧ r ≤ x ∧ vdig x = pre ++ vdig r ∧ J pre wr)
    (fun p _ => (intOf p).toNat)
  case atStart =>
    exact ⟨[], x, rfl, Nat.le_refl _, rfl, h0⟩
  case round =>
    obtain ⟨pre, r, rfl, hr, hd, hJs⟩ := hrel
    by_cases hlt : r < 128
    · rw [vdig_lt hlt] at hd
      obtain ⟨fn, tmps, assign, body, hy, hR⟩ := hY pre ((r : Int) % 128, true) wr hJs (by rw [hd]; simp)
      dsimp only [encs] at hy
      have HD := Lib.hid hd
      clear hd
      have hb : decide ((r : Int) < 128) = true := by simp; omega
      gi_wp2
      refine hR.mono ?_
      rintro e W3 (⟨rfl, hJ3, hk3⟩ | ⟨rfl, hJx3⟩)
      · gi_wp2
        refine bodyPost_ret (results_none rfl _ _ _) rfl ?_
        exact ⟨⟨_, rfl⟩, .inl ⟨_, HD.out.symm, hJ3⟩⟩
      · gi_wp2
        refine bodyPost_ret (results_none rfl _ _ _) rfl ?_
        exact ⟨⟨_, rfl⟩, .inr ⟨_, by rw [HD.out]; exact List.prefix_refl _, hJx3⟩⟩
    · rw [vdig_ge hlt] at hd
      obtain ⟨fn, tmps, assign, body, hy, hR⟩ := hY pre ((r : Int) % 128, false) wr hJs (by rw [hd]; simp)
      dsimp only [encs] at hy
      have HD := Lib.hid hd
      clear hd
      have hb : decide ((r : Int) < 128) = false := by simp; omega
      gi_wp2
      refine hR.mono ?_
      rintro e W3 (⟨rfl, hJ3, hk3⟩ | ⟨rfl, hJx3⟩)
      · gi_wp2
        go_roundw
        case rel => exact ⟨pre ++ [((r : Int) % 128, false)], r / 128, by simp, by omega, by rw [HD.out]; simp, hJ3⟩
        case measure => simp [intOf]; omega
      · gi_wp2
        refine bodyPost_ret (results_none rfl _ _ _) rfl ?_
        exact ⟨⟨_, rfl⟩, .inr ⟨_, by rw [HD.out]; exact ⟨vdig (r / 128), by simp⟩, hJx3⟩⟩

set_option maxHeartbeats 1000000 in
theorem digits_in (F : Fence) (n : Nat) (h5 : F.fn 34) (hro : F.round = none) (x : Int) (w : World) :
    CallsIn F n Try.prog 34 #[.int .u64 x] w fun e w' => e = .returned (.func (.func 37) #[] #[.pointer (some ⟨w.heap.size, 0, none⟩)]) ∧ w' = w.alloc (.cells #[.int .u64 x] 22) := by
  refine callsIn_of_wp Try.func34 rfl h5 ?_ hro
  simp only [Try.ntmps34, List.size_toArray, List.length_cons, List.length_nil, Nat.reduceAdd, Nat.reduceSub, Array.replicate_succ, Array.replicate_zero, List.push_toArray, List.append_toArray, List.nil_append, List.cons_append]
  gi_wp2
  go_ret
  exact ⟨rfl, rfl⟩

theorem digits_stops (F : Fence) (n : Nat) (h6 : F.fn 37) (hro : F.round = none) (hn : 1 ≤ n) (Bn n₀ : Nat) (x : Nat) (hx : x < 18446744073709551616) (w : World) (hBn : Bn < w.heap.size)
    (hc : w.cell? ⟨Bn, 0, none⟩ = some (.int .u64 x)) :
    SeqStopsK F n Try.prog 37 #[.pointer (some ⟨Bn, 0, none⟩)] encs (Below n₀) (fun ys => ys = vdig x) (fun pre => pre <+: vdig x) (vdig x).length w := fun l J Jx W hW _ _ hY h0 =>
  digits1_in F n h6 hro hn l Bn n₀ x hx J Jx hY W ((hW.cell (p := ⟨Bn, 0, none⟩) hBn).trans hc) h0

theorem info5 : (Try.prog.info? 5).map (fun i => (i.zero, i.size, i.bytes)) = some (some (.int .u8 0), 1, 1) := by kernel_rfl

set_option maxRecDepth 100000 in
set_option maxHeartbeats 2000000 in
theorem put_in (F : Fence) (n : Nat) (h11 : F.fn 27) (h15 : F.fn 34) (h16 : F.fn 37) (hro : F.round = none) (hn : 3 ≤ n) (x : Nat) (hx : x < 18446744073709551616) (w : World) :
    CallsIn F n Try.prog 27 #[.int .u64 x] w fun e W' => ∃ v, e = .returned v ∧ W'.ownsRow w.heap.size 5 1 v (vput x).length ((vput x).map (Value.int .u8)) ∧ Below w.heap.size w W' := by
  have h1 : 1 ≤ n := by omega
  obtain ⟨i0, hi, hz0, hz1, hz2⟩ := info_parts info5
  refine callsIn_of_wp_marks Try.func27 rfl h11 ?_ hro
  simp only [Try.ntmps27, List.size_toArray, List.length_cons, List.length_nil, Nat.reduceAdd, Nat.reduceSub, Array.replicate_succ, Array.replicate_zero, List.push_toArray, List.append_toArray, List.nil_append, List.cons_append]
  gi_wp2_with (first | (gi_at_call 34; refine (digits_in F (n - 1) h15 hro _ _).mono ?_; rintro e w' ⟨rfl, rfl⟩) | (gi_at_make; refine wpListIn_make_own _ rfl _ _ 23 rfl w.heap.size 5 i0 (.int .u8 0) 1 Try.underlying23 hi hz0 hz1 .i64 .i64 10 10 rfl rfl rfl (by rw [hz2]; decide) (by decide) (Nat.le_refl _) ?_; intro wm hown hgm))
  have bO := Boxed.new wm 23 (.slice (some ⟨w.heap.size, 0, none⟩) 0 10)
  have bN := Boxed.new (wm.alloc (.cells #[.slice (some ⟨w.heap.size, 0, none⟩) 0 10] 23)) 22 (.int .u64 x)
  rw [World.size_alloc] at bN
  have hwm : w.heap.size < wm.heap.size := (hown.lt _ rfl).2
  have hB0 : Below w.heap.size w ((wm.alloc (.cells #[.slice (some ⟨w.heap.size, 0, none⟩) 0 10] 23)).alloc (.cells #[.int .u64 x] 22)) := (((Below.refl _ w).grown hgm (Nat.le_refl _) (fun j e => by cases e)).alloc (by omega) _).alloc (by simp; omega) _
  refine wpIn_rangeFunc_ownG hro h1 (gf := 37) (lb := #[.pointer (some ⟨wm.heap.size + 1, 0, none⟩)]) rfl h16 (enters_of Try.func37 (by kernel_rfl) rfl)
    (digits_stops F (n - 1) h16 hro (by omega) (wm.heap.size + 1) w.heap.size x hx _ (by simp) bN.cell) belowK_t (belowK_b (by simp; omega)) (Below.refl _ _) (fun _ => rfl)
    (fun pre W => (∃ v, Boxed W wm.heap.size 23 v ∧ W.ownsRow w.heap.size 5 1 v pre.length (pre.map fun p => Value.int .u8 (vbyteW p)) ∧ True) ∧ Below w.heap.size w W)
    (fun _ _ _ => False)
    (OwnFrom.and (Own.from (holdsRow_own w.heap.size wm.heap.size 23 5 1 (fun pre : List (Int × Bool) => pre.length) (fun pre : List (Int × Bool) => pre.map fun p => Value.int .u8 (vbyteW p)) (fun _ _ => True)) _) (ownFrom_below (Nat.le_refl _) (by simp; omega)))
    (fun _ _ _ _ _ hs _ _ => hs)
    ⟨⟨_, bO.alloc _, (hown.alloc _).alloc _, trivial⟩, hB0⟩
    (fun p => { tmps := #[Value.int IntKind.u64 ↑x, undef, Value.slice none 0 0,
          Value.pointer (some { block := wm.heap.size, off := 0 }), .int .u8 p.1, .bool p.2,
          Value.slice (some { block := w.heap.size, off := 0 }) 0 10, Value.int IntKind.u64 ↑x,
          Value.func (Fn.func 37) #[] #[Value.pointer (some { block := wm.heap.size + 1, off := 0 })], .int .u8 p.1, .bool p.2,
          undef, undef, undef, undef, undef, undef, undef, undef, undef], defers := [] }) ?assign ?body ?done ?stop
  case assign =>
    intro l p W K hK
    gi_wp2
    exact hK
  case body =>
    rintro l pre ⟨d, b⟩ W ⟨⟨v, hv, hrow, _⟩, hB⟩ hlt
    have hc := hv.cell
    have hpl : pre.length < 10 := Nat.lt_of_lt_of_le hlt (by rw [vdig_len]; exact vput_len10 x (by omega))
    clear hlt
    cases b
    · gi_wp2_with (gi_at_builtin; refine wpListIn_append_own _ rfl _ _ 23 rfl w.heap.size 5 i0 (.int .u8 0) 1 1 Try.underlying23 hi hz0 hz1 hz2 rfl (by decide) _ _ _ rfl (hrow.alloc _) ⟨W.heap.size, 0, none⟩ 1 1 [.int .u8 (vbyteW (d, false))] rfl rfl (cell_one_new _ _ _) (by simp [Value.oneCell']) (by unfold maxLen; omega) (by omega) (by have := hB.size; simp; omega) ?_; intro v' w1 hown' hgrow _; obtain ⟨g', cap', rfl⟩ := ownsRow_succ hown'; obtain ⟨hv1, hv2, hr2, hk2, hb2⟩ := hv.appended (by decide) hrow hB.size (by omega) hown' hgrow; have hc1 := hv1.cell; have hf1 := hv1.frozen)
      exact ⟨hk2.from _, hb2, ⟨_, hv2, by simpa using hr2, trivial⟩, hB.trans hb2⟩
    · gi_wp2_with (gi_at_builtin; refine wpListIn_append_own _ rfl _ _ 23 rfl w.heap.size 5 i0 (.int .u8 0) 1 1 Try.underlying23 hi hz0 hz1 hz2 rfl (by decide) _ _ _ rfl (hrow.alloc _) ⟨W.heap.size, 0, none⟩ 1 1 [.int .u8 (vbyteW (d, true))] rfl rfl (cell_one_new _ _ _) (by simp [Value.oneCell']) (by unfold maxLen; omega) (by omega) (by have := hB.size; simp; omega) ?_; intro v' w1 hown' hgrow _; obtain ⟨g', cap', rfl⟩ := ownsRow_succ hown'; obtain ⟨hv1, hv2, hr2, hk2, hb2⟩ := hv.appended (by decide) hrow hB.size (by omega) hown' hgrow; have hc1 := hv1.cell; have hf1 := hv1.frozen)
      exact ⟨hk2.from _, hb2, ⟨_, hv2, by simpa using hr2, trivial⟩, hB.trans hb2⟩
  case done =>
    rintro D ys W hD rfl ⟨⟨v, hv, hrow, _⟩, hB⟩ hK
    have hc := hv.cell
    gi_wp2
    refine ⟨by simp, .inl ⟨_, _, rfl, run_takeDeferred hK, ?_⟩⟩
    refine ⟨_, results_tmp rfl _ _ _, v, rfl, ?_, hB.trans (belowK_b (w := w) (Nat.le_refl _) W D _ _ (by simp at hD; omega) hK rfl rfl)⟩
    have := ownsRow_putObj hrow (.deferred none) hK rfl
    rw [vdig_len, vputW_map] at this
    exact this
  case stop =>
    rintro D c pre W _ _ h _
    exact h.elim

/-- varint.Put, in whatever memory. -/
theorem put_any (x : Nat) (hx : x < 18446744073709551616) (w : World) :
    Calls Try.prog 27 #[.int .u64 x] w fun e W' => ∃ v, e = .returned v ∧ W'.ownsRow w.heap.size 5 1 v (vput x).length ((vput x).map (Value.int .u8)) ∧ Below w.heap.size w W' :=
  (callsIn_wide (n := 3)).1 (put_in _ 3 trivial trivial trivial rfl (by omega) x hx w)

end Go.Proofs.Ytemplngmkpldeaa
