/-
  'skylight/skylightlaw11.RecordPuts' returns true for every input, and the input reads afterwards as it read before. Conditions: none.
-/
import Derived.Test.YtmdknedngiggdaaRows
import Derived.WalkKit
import Derived.ProofKit
import Derived.OpenShut
import Derived.ShutString
import Derived.ChangeOld
import Derived.Below
import Derived.Test.YtmdknedngiggdaaJ03
import Derived.Test.YtmdknedngiggdaaJ30
namespace Go.Proofs.Ytmdknedngiggdaa.recordPuts
open Go.Proofs Go.Proofs.Vm Go.Proofs.Lm Go.Proofs.Lh Go.Proofs.Rn Go.Proofs.Op Go.Proofs.Rw Go.Proofs.Rf Go.Proofs.Rc Go.Proofs.Dg
open Go.ChangeShapes Go.WideShapes Go.ChangeAt Go.RowKit
open Go.ChangeMaps (open_string shut_string)
set_option linter.unusedVariables false

theorem own : ownKnob Try.prog.godebug = none := by kernel_rfl
theorem laidOut : laidOutB Try.prog = true := by kernel_rfl

/-- A slice of integers that came in: nil, or a row of cells of its capacity, each fitting its kind. -/
def IsRow (k : IntKind) (w : World) (a : Option Addr) (len cap : Nat) (zs : List Int) : Prop :=
  (a = none ∧ len = 0 ∧ cap = 0 ∧ zs = []) ∨
  ∃ x, a = some x ∧ len ≤ cap ∧ cap ≤ maxLen ∧ zs.length = cap ∧ (∀ i, i < zs.length → w.cell? (x.add i) = some (.int k (zs.getD i 0))) ∧ ∀ n ∈ zs, (Lit.int k n).wf = true

open Go.RowKit Go.Shelf Go.Proofs.Vm Go.Proofs.Rw Go.Proofs.Lh Go.Proofs.Rf
open Go.Proofs.Rc (putM takeM oneM)

set_option maxRecDepth 100000 in
set_option maxHeartbeats 4000000 in
theorem walk (a0_0 a0_1 : Int) (a0 : Option Addr) (cap0 : Nat) (ls0 : List (List Rw.Sp)) (w : World) (w0_0 : (Lit.int .i64 a0_0).wf = true) (w0_1 : (Lit.int .i64 a0_1).wf = true) (w0 : Rw.Reads w w.heap.size (.slice a0 ls0.length cap0) ls0) (wb0 : ∀ l ∈ ls0, ∀ y ∈ l, y.1 < 18446744073709551616 ∧ y.2 < 18446744073709551616) :
    Calls Try.prog 3 #[.agg #[.int .i64 a0_0, .int .i64 a0_1, .slice a0 ls0.length cap0]] w fun e w' => e = .returned (.bool true) ∧ Below w.heap.size w w' := by
  clear w0_0 w0_1 wb0
  have hrd := w0
  obtain ⟨N, hN⟩ : ∃ x, ls0.length = x := ⟨_, rfl⟩
  rw [hN] at hrd ⊢
  have hfw := fun (W : World) (hW : Below w.heap.size w W) => rfew_any a0_0 a0_1 ls0 W a0 cap0 (by rw [hN]; exact hrd.grow hW)
  simp only [hN] at hfw
  have HRD := Lib.hid hrd
  have HN := Lib.hid hN
  clear hrd hN w0
  obtain ⟨q, hq⟩ : ∃ q, fewB ls0 = q := ⟨_, rfl⟩
  simp only [hq] at hfw
  have HQ := Lib.hid hq
  have HFW := Lib.hid hfw
  clear hq hfw
  have hb1 := (Below.refl w.heap.size w).alloc (Nat.le_refl _) (.cells #[.int .i64 a0_0, .int .i64 a0_1, .slice a0 N cap0] 24)
  have p1 := heap_alloc_new w (.cells #[.int .i64 a0_0, .int .i64 a0_1, .slice a0 N cap0] 24)
  obtain ⟨W2, hW2⟩ : ∃ W, w.alloc (.cells #[.int .i64 a0_0, .int .i64 a0_1, .slice a0 N cap0] 24) = W := ⟨_, rfl⟩
  rw [hW2] at hb1 p1
  have HW2 := Lib.hid hW2
  have HB2 := Lib.hid hb1
  have PR := Lib.hid p1
  clear hW2 hb1 p1
  go_enter Try.func3, Try.ntmps3
  go_upto_region 1 with (fail)
  rw [HW2.out]
  clear HW2
  go_upto_region 2 with (go_at_call 8; refine (awakeR_any _).mono ?_; rintro e wa ⟨rfl, ha⟩; have HWA := Lib.hid (thn HB2.out ha); have PRA := Lib.hid ((ha.block _ (lt_of PR.out)).trans PR.out); clear ha)
  obtain ⟨y0, y1, y2⟩ := box3 PRA.out
  have lR := lt_of PRA.out
  cases q with
  | false =>
    go_wp2_with (go_at_call 9; refine (HFW.out _ HWA.out).mono ?_; rintro e wb ⟨rfl, hb⟩; have HB3 := Lib.hid (thn HWA.out hb); clear hb)
    go_ret
    exact ⟨rfl, HB3.out⟩
  | true =>
  go_upto_region 4 with (go_at_call 9; refine (HFW.out _ HWA.out).mono ?_; rintro e wb ⟨rfl, hb⟩; have HWB := Lib.hid (thn HWA.out hb); have PRB := Lib.hid ((hb.block _ (lt_of PRA.out)).trans PRA.out); clear hb)
  obtain ⟨z0, z1, z2⟩ := box3 PRB.out
  have lRB := lt_of PRB.out
  go_upto_region 5 with (fail)
  clear y0 y1 y2 lR z0 z1 z2 lRB
  obtain ⟨W4, hW4⟩ : ∃ W, wb.alloc (.cells #[.int .i64 a0_0, .int .i64 a0_1, .slice a0 N cap0] 27) = W := ⟨_, rfl⟩
  have hB4 : Below wb.heap.size wb W4 := by rw [← hW4]; exact (Below.refl _ wb).alloc (Nat.le_refl _) _
  have pH : W4.heap[wb.heap.size]? = some (.cells #[.int .i64 a0_0, .int .i64 a0_1, .slice a0 N cap0] 27) := by rw [← hW4]; exact heap_alloc_new wb _
  rw [hW4]
  obtain ⟨bH, hbH⟩ : ∃ b, wb.heap.size = b := ⟨_, rfl⟩
  rw [hbH] at pH ⊢
  have HB4 := Lib.hid (thn HWB.out hB4)
  have HL4 := Lib.hid (HRD.out.grow HB4.out)
  have LH := Lib.hid (lt_of pH)
  obtain ⟨y0, y1, y2⟩ := box3 pH
  have Y0 := Lib.hid y0
  have Y1 := Lib.hid y1
  have Y2 := Lib.hid y2
  have hfew := of_decide_eq_true HQ.out
  have hlen : ls0.length ≤ 60 := hfew.1
  have hlv : ∀ i, (lev ls0 i).length ≤ 40 := fun i => by
    rcases Nat.lt_or_ge i ls0.length with h | h
    · exact hfew.2 i h
    · rw [lev_ge h]; simp
  have hfl : ls0.flatten.length ≤ 20000 := flat_few hlen fun l hl => by
    obtain ⟨i, hi, rfl⟩ := List.getElem_of_mem hl
    have := hfew.2 i hi
    rwa [lev_lt hi] at this
  obtain ⟨PB, hPB⟩ : ∃ x, putM (a0_0, a0_1, ls0) = x := ⟨_, rfl⟩
  have hok : Rc.okB PB := by rw [← hPB]; exact Rc.put_ok _
  have CP' : ∀ W : World, Grows W4 W → Calls Try.prog 10 #[.agg #[.int .i64 a0_0, .int .i64 a0_1, .slice a0 N cap0]] W fun e w' => ∃ v, e = .returned v ∧ Holds w' w'.heap.size v PB ∧ Below W.heap.size W w' := by
    intro W hW
    have := rput_any a0_0 a0_1 ls0 (by omega) (fun i => by have := hlv i; omega) hfl W a0 cap0 (by rw [HN.out]; exact HL4.out.grow hW)
    rw [hPB, HN.out] at this
    refine this.mono ?_
    rintro e w' ⟨v, rfl, ho, hb⟩
    exact ⟨v, rfl, Holds.of_own ho, hb⟩
  have CP := Lib.hid CP'
  clear CP'
  have CR' : ∀ W : World, Grows W4 W → Calls Try.prog 12 #[.agg #[.int .i64 a0_0, .int .i64 a0_1, .slice a0 N cap0]] W fun e w' => ∃ v, e = .returned v ∧ Holds w' w'.heap.size v PB ∧ Below W.heap.size W w' := by
    intro W hW
    have := refPutH_any a0_0 a0_1 ls0 (by omega) (fun i => by have := hlv i; omega) hfl W a0 cap0 (by rw [HN.out]; exact HL4.out.grow hW)
    rw [hPB, HN.out] at this
    refine this.mono ?_
    rintro e w' ⟨v, rfl, ho, hb⟩
    exact ⟨v, rfl, Holds.of_own ho, hb⟩
  have CR := Lib.hid CR'
  clear CR'
  have OKB := Lib.hid hok
  clear y0 y1 y2 pH hW4 hB4 hbH hfew hlen hlv hfl hok hPB
  refine region_facts0 (fr := ?frA) 11 [17, 18, 19, 20, 21, 22, 23, 24, 25, 26, 27] (fun i v W => match i with
      | 0 => v = .bool true
      | 1 => v = .bool true
      | 2 => v = .agg #[.int .i64 a0_0, .int .i64 a0_1, .slice a0 N cap0]
      | 3 => v = .agg #[.int .i64 a0_0, .int .i64 a0_1, .slice a0 N cap0]
      | 4 => Holds W W.heap.size (v) PB
      | 5 => v = .string (strOf PB)
      | 6 => v = .agg #[.int .i64 a0_0, .int .i64 a0_1, .slice a0 N cap0]
      | 7 => Holds W W.heap.size (v) PB
      | 8 => v = .string (strOf PB)
      | 9 => v = .bool true
      | 10 => v = .bool true
      | _ => True) rfl ?hBA (by kernel_rfl) (by kernel_rfl) (by kernel_rfl) ?hfrA ?hFA ?hopA ?htailA
  case hBA => kernel_rfl
  case hfrA =>
    intro us
    simp only [putL]
    go_simp
    rfl
  case hFA =>
    intro i v W W' hG h
    match i with
    | 0 => exact h
    | 1 => exact h
    | 2 => exact h
    | 3 => exact h
    | 4 => exact (Holds.below h hG).mono hG.size
    | 5 => exact h
    | 6 => exact h
    | 7 => exact (Holds.below h hG).mono hG.size
    | 8 => exact h
    | 9 => exact h
    | 10 => exact h
    | n + 11 => trivial
  case hopA =>
    intro i hi us W2 hG hd
    match i, hi with
    | 0, _ =>
      clear hd
      exact hop_value rfl rfl rfl (v := .bool true) (W' := W2) (by go_simp) (Grows.refl _) rfl
    | 1, _ =>
      have h0 : us 0 = .bool true := hd 0 (by omega) (by kernel_rfl)
      clear hd
      exact hop_value rfl rfl rfl (v := .bool true) (W' := W2) (by go_simp) (Grows.refl _) rfl
    | 2, _ =>
      have h1 : us 1 = .bool true := hd 1 (by omega) (by kernel_rfl)
      clear hd
      rw [h1]
      have q0 := (hG.cell (b := bH) (o := 0) LH.out).trans Y0.out
      have q0l := Nat.lt_of_lt_of_le LH.out hG.size
      have q1 := (hG.cell (b := bH) (o := 1) LH.out).trans Y1.out
      have q1l := Nat.lt_of_lt_of_le LH.out hG.size
      have q2 := (hG.cell (b := bH) (o := 2) LH.out).trans Y2.out
      have q2l := Nat.lt_of_lt_of_le LH.out hG.size
      exact hop_value rfl rfl rfl (v := .agg #[.int .i64 a0_0, .int .i64 a0_1, .slice a0 N cap0]) (W' := W2) (by go_simp) (Grows.refl _) rfl
    | 3, _ =>
      have h1 : us 1 = .bool true := hd 1 (by omega) (by kernel_rfl)
      have h2 : us 2 = .agg #[.int .i64 a0_0, .int .i64 a0_1, .slice a0 N cap0] := hd 2 (by omega) (by kernel_rfl)
      clear hd
      rw [h1]
      refine hop_call rfl rfl rfl (f := 11) (args := #[.agg #[.int .i64 a0_0, .int .i64 a0_1, .slice a0 N cap0]]) (by go_simp) ?_
      refine (lmade_any _ _ _ _ _ W2).mono ?_
      rintro e W' ⟨rfl, hb⟩
      exact ⟨_, rfl, hb, rfl⟩
    | 4, _ =>
      have h1 : us 1 = .bool true := hd 1 (by omega) (by kernel_rfl)
      have h3 : us 3 = .agg #[.int .i64 a0_0, .int .i64 a0_1, .slice a0 N cap0] := hd 3 (by omega) (by kernel_rfl)
      clear hd
      rw [h1]
      refine hop_call rfl rfl rfl (f := 10) (args := #[.agg #[.int .i64 a0_0, .int .i64 a0_1, .slice a0 N cap0]]) (by go_simp) ?_
      refine (CP.out W2 hG).mono ?_
      rintro e W' ⟨v, rfl, hh, hb⟩
      exact ⟨_, rfl, hb, hh⟩
    | 5, _ =>
      have h1 : us 1 = .bool true := hd 1 (by omega) (by kernel_rfl)
      have h4 : Holds W2 W2.heap.size (us 4) PB := hd 4 (by omega) (by kernel_rfl)
      clear hd
      rw [h1]
      have r4 := run_str h4 OKB.out
      exact hop_value rfl rfl rfl (v := .string (strOf PB)) (W' := W2) (by go_simp) (Grows.refl _) rfl
    | 6, _ =>
      have h1 : us 1 = .bool true := hd 1 (by omega) (by kernel_rfl)
      clear hd
      rw [h1]
      have q0 := (hG.cell (b := bH) (o := 0) LH.out).trans Y0.out
      have q0l := Nat.lt_of_lt_of_le LH.out hG.size
      have q1 := (hG.cell (b := bH) (o := 1) LH.out).trans Y1.out
      have q1l := Nat.lt_of_lt_of_le LH.out hG.size
      have q2 := (hG.cell (b := bH) (o := 2) LH.out).trans Y2.out
      have q2l := Nat.lt_of_lt_of_le LH.out hG.size
      exact hop_value rfl rfl rfl (v := .agg #[.int .i64 a0_0, .int .i64 a0_1, .slice a0 N cap0]) (W' := W2) (by go_simp) (Grows.refl _) rfl
    | 7, _ =>
      have h1 : us 1 = .bool true := hd 1 (by omega) (by kernel_rfl)
      have h6 : us 6 = .agg #[.int .i64 a0_0, .int .i64 a0_1, .slice a0 N cap0] := hd 6 (by omega) (by kernel_rfl)
      clear hd
      rw [h1]
      refine hop_call rfl rfl rfl (f := 12) (args := #[.agg #[.int .i64 a0_0, .int .i64 a0_1, .slice a0 N cap0]]) (by go_simp) ?_
      refine (CR.out W2 hG).mono ?_
      rintro e W' ⟨v, rfl, hh, hb⟩
      exact ⟨_, rfl, hb, hh⟩
    | 8, _ =>
      have h1 : us 1 = .bool true := hd 1 (by omega) (by kernel_rfl)
      have h7 : Holds W2 W2.heap.size (us 7) PB := hd 7 (by omega) (by kernel_rfl)
      clear hd
      rw [h1]
      have r7 := run_str h7 OKB.out
      exact hop_value rfl rfl rfl (v := .string (strOf PB)) (W' := W2) (by go_simp) (Grows.refl _) rfl
    | 9, _ =>
      have h1 : us 1 = .bool true := hd 1 (by omega) (by kernel_rfl)
      have h5 : us 5 = .string (strOf PB) := hd 5 (by omega) (by kernel_rfl)
      have h8 : us 8 = .string (strOf PB) := hd 8 (by omega) (by kernel_rfl)
      clear hd
      rw [h1]
      exact hop_value rfl rfl rfl (v := .bool true) (W' := W2) (by go_simp) (Grows.refl _) rfl
    | 10, _ =>
      have h1 : us 1 = .bool true := hd 1 (by omega) (by kernel_rfl)
      have h9 : us 9 = .bool true := hd 9 (by omega) (by kernel_rfl)
      clear hd
      exact hop_value rfl rfl rfl (v := .bool true) (W' := W2) (by go_simp) (Grows.refl _) rfl
    | d + 11, h => exact absurd h (by omega)
  case htailA =>
    intro us W2 hG hf
    have hz : us 10 = .bool true := hf 10 (by omega)
    clear hf
    rw [hz]
    have HG2 := Lib.hid hG
    clear hz hG
    simp only [List.drop_succ_cons, List.drop_zero]
    repeat (go_big_quiet_step (fail))
    refine wpQuiet_nil ?_
    rintro w' ⟨nq, rfl⟩
    have HBX := Lib.hid (below_drewN HG2.out nq)
    clear HG2
    generalize W2.drewN nq = wy at *
    go_wp2
    go_ret
    exact ⟨rfl, thn HB4.out HBX.out⟩

set_option maxRecDepth 100000 in
theorem lifted (os : Os) (started : os.Started) (H : Type) (enc : TypeId × Value → H) :
    ReturnsInHanded {} Try.checked os 3 .any (Rows.recordPutsSpec.pre6 enc Try.prog Try.f3 Rows.recordPutsRow.domain false) (Rows.recordPutsSpec.post enc Try.prog Try.f3 false true false false) := by
  refine returnsInHanded_of_change (C := Try.checked) own started (by kernel_rfl) Try.func3
    (ChangeSpec.witness6 (enc := enc) (C := Try.checked) false ⟨#[], #[.agg #[.int .i64 0, .int .i64 0, .slice none 0 0]], []⟩ 8 (by kernel_rfl) (by kernel_rfl) (by kernel_rfl) (by kernel_rfl)) ?_
  intro W base args ds gs before hval0 hW hcnd _
  have hval : ∀ (j : Nat) t v, Try.f3.params[j]? = some t → args[j]? = some v → Value.okWide Try.prog W .any base t v := hval0
  have hW' := hW
  obtain ⟨p, q, hA0, hV, rfl, hfz, hnd⟩ := hW
  have hA : DataW.TrodAll enc Try.prog W 0 (fun _ => true) true Try.f3.params.toList args.toList ds p := hA0
  rw [Try.params3] at hA hval
  obtain ⟨v0, vs0, d0, ds0, p0, q0, hargs, rfl, rfl, h0, r0⟩ := trodAll_cons hA
  obtain ⟨rfl, rfl, rfl⟩ := trodAll_nil r0
  obtain rfl : args = #[v0] := by cases args; simp_all
  obtain ⟨rfl, rfl⟩ := trodVars_none hV
  have k0 := h0
  have lt0 : ∀ x ∈ p0, x.block < W.heap.size := by obtain ⟨m, hm⟩ := k0; exact DataW.trod_lt m _ _ _ hm
  obtain ⟨a0_0, a0_1, a0, cap0, ls0, rfl, w0_0, w0_1, w0, wb0⟩ := Op.open_raw (f := 9) (e1 := 65) (e := 73) Try.underlying24 (by kernel_rfl) (by kernel_rfl) (by kernel_rfl) ⟨rfl, rfl, rfl⟩ ⟨by kernel_rfl, by kernel_rfl, by kernel_rfl⟩ (by kernel_rfl) (by kernel_rfl) (by kernel_rfl) (by kernel_rfl) (by kernel_rfl) (hval 0 24 v0 rfl rfl) h0
  clear hA0 hval0
  refine (walk a0_0 a0_1 a0 cap0 ls0 W w0_0 w0_1 w0 wb0).mono fun e W' ⟨he, bel⟩ => ?_
  subst he
  exact ⟨_, rfl, _, _, _, [], _, [], hW', trodAll_mk1 (shut_bool Try.underlying4 _), (trodAll_cons_mk (Below.trod laidOut (by kernel_rfl) (of_decide_eq_true (by kernel_rfl)) k0 bel lt0) trodAll_mk0), rfl, bel.frame _, fun h => by cases h⟩

theorem over : Rows.recordPutsRow.holds Try.pinned (OpenSpec.ofChange Rows.recordPutsSpec) :=
  OpenClaim.holds_of_wide 3 Try.f3 rfl rfl rfl rfl rfl rfl rfl ⟨rfl, rfl, rfl, rfl, rfl⟩ rfl rfl rfl rfl rfl (by kernel_rfl) Try.func3 (by kernel_rfl)
    (of_decide_eq_true (by kernel_rfl)) (by unfold Func.isWrapper; first | (rw [if_pos (by decide +kernel)]; kernel_rfl) | (rw [if_neg (by decide +kernel)]; exact ⟨rfl, rfl⟩))
    (fun os started H enc _ => lifted os started H enc)

/-- The statement. -/
theorem proved : Rows.RecordPutsSaid := over
#print axioms proved
end Go.Proofs.Ytmdknedngiggdaa.recordPuts
