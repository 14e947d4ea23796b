/-
  'skylight/skylightlaw11.RecordOne' returns true for every input, and the input reads afterwards as it read before. Conditions: none.
-/
import Derived.Test.YtmdknedngiggdaaRows
import Derived.WalkKit
import Derived.ProofKit
import Derived.OpenShut
import Derived.ShutString
import Derived.ChangeOld
import Derived.Below
import Derived.Test.YtmdknedngiggdaaJ01
import Derived.Test.YtmdknedngiggdaaJ30
namespace Go.Proofs.Ytmdknedngiggdaa.recordOne
open Go.Proofs Go.Proofs.Vm Go.Proofs.Lm Go.Proofs.Lh Go.Proofs.Rn Go.Proofs.Op Go.Proofs.Rw Go.Proofs.Rf Go.Proofs.Rc Go.Proofs.Dg
open Go.ChangeShapes Go.WideShapes Go.ChangeAt Go.RowKit
open Go.ChangeMaps (open_string shut_string)
set_option linter.unusedVariables false

theorem own : ownKnob Try.prog.godebug = none := by kernel_rfl
theorem laidOut : laidOutB Try.prog = true := by kernel_rfl

/-- A slice of integers that came in: nil, or a row of cells of its capacity, each fitting its kind. -/
def IsRow (k : IntKind) (w : World) (a : Option Addr) (len cap : Nat) (zs : List Int) : Prop :=
  (a = none ∧ len = 0 ∧ cap = 0 ∧ zs = []) ∨
  ∃ x, a = some x ∧ len ≤ cap ∧ cap ≤ maxLen ∧ zs.length = cap ∧ (∀ i, i < zs.length → w.cell? (x.add i) = some (.int k (zs.getD i 0))) ∧ ∀ n ∈ zs, (Lit.int k n).wf = true

open Go.RowKit Go.Shelf Go.Proofs.Vm Go.Proofs.Rw Go.Proofs.Lh Go.Proofs.Rf
open Go.Proofs.Rc (putM takeM oneM)

set_option maxRecDepth 100000 in
set_option maxHeartbeats 4000000 in
theorem walk (a0 : Option Addr) (len0 cap0 : Nat) (z0 : List Int) (w : World) (w0 : IsRow .u8 w a0 len0 cap0 z0) :
    Calls Try.prog 6 #[.slice a0 len0 cap0] w fun e w' => e = .returned (.bool true) ∧ Below w.heap.size w w' := by
  obtain ⟨hh, hl, hbd⟩ := holds_of_row w0
  obtain ⟨bs, hbs⟩ : ∃ x, z0.take len0 = x := ⟨_, rfl⟩
  rw [hbs] at hh hl hbd
  clear hbs w0
  have HH := Lib.hid hh
  have HBD := Lib.hid hbd
  have HLN := Lib.hid hl
  clear hh hbd hl
  by_cases h4 : len0 ≤ 400
  case neg =>
    have h4i : decide ((400 : Int) < (len0 : Int)) = true := by rw [decide_eq_true_iff]; omega
    go_enter Try.func6, Try.ntmps6
    go_wp2_with (go_at_call 8; refine (awakeR_any _).mono ?_; rintro e wa ⟨rfl, ha⟩)
    go_ret
    exact ⟨rfl, ha⟩
  have h4i : (len0 : Int) ≤ 400 := by omega
  have hon := fun (W : World) (hW : Below w.heap.size w W) => oneR_any (v := .slice a0 len0 cap0) ((HH.out.below hW).mono hW.size) HBD.out (by have := HLN.out; omega)
  have hm1 := Rc.one_told bs
  have hof := fun h => Rc.one_of (bs := bs) HBD.out h
  have hbad := fun h => Rc.one_bad (bs := bs) h
  obtain ⟨⟨⟨k1, g1, l1⟩, e1⟩, hx1⟩ : ∃ q, oneM bs = q := ⟨_, rfl⟩
  simp only [hx1] at hon hm1 hof hbad
  obtain ⟨n1, hn1⟩ : ∃ n, l1.length = n := ⟨_, rfl⟩
  have ON := Lib.hid hon
  have M1 := Lib.hid hm1
  have N1 := Lib.hid hn1
  have OF := Lib.hid hof
  have BAD := Lib.hid hbad
  clear hon hm1 hn1 hof hbad hx1 h4
  go_enter Try.func6, Try.ntmps6
  go_upto_region 4 with (go_at_call 8; refine (awakeR_any _).mono ?_; rintro e wa ⟨rfl, ha⟩)
  have Bwa := Lib.hid ha
  clear ha
  go_upto_region 5 with (go_at_call 13; refine (ON.out wa Bwa.out).mono ?_; rintro e wx ⟨u, rfl, ⟨A1, c1, rfl, hLx⟩, hbx⟩; dsimp only at hLx ⊢; rw [N1.out] at hLx ⊢)
  have pp := heap_alloc_new wx (.cells #[.int .i64 k1, .int .i64 g1, .slice A1 n1 c1] 30)
  have bb := thn hbx ((Below.refl wx.heap.size wx).alloc (Nat.le_refl _) (.cells #[.int .i64 k1, .int .i64 g1, .slice A1 n1 c1] 30))
  have ll := hLx.grow ((Below.refl wx.heap.size wx).alloc (Nat.le_refl _) (.cells #[.int .i64 k1, .int .i64 g1, .slice A1 n1 c1] 30))
  generalize wx.alloc (.cells #[.int .i64 k1, .int .i64 g1, .slice A1 n1 c1] 30) = Wb at *
  obtain ⟨pA, hpe⟩ : ∃ p, wx.heap.size = p := ⟨_, rfl⟩
  rw [hpe] at pp ⊢
  have PpA := Lib.hid pp
  have LpA := Lib.hid ll
  have BWb := Lib.hid (thn Bwa.out bb)
  clear pp bb ll hpe hbx hLx
  by_cases he : e1 = 0
  case neg =>
    have he' : (e1 != 0) = true := by simpa using he
    have hz := BAD.out he
    simp only [Prod.mk.injEq] at hz
    obtain ⟨rfl, rfl, rfl⟩ := hz
    obtain rfl : 0 = n1 := N1.out
    obtain ⟨x0, x1, x2⟩ := box3 PpA.out
    have lx := lt_of PpA.out
    go_wp2_with (go_at_call 18; refine (same_told (m := (0, 0, [])) (.inr rfl) Wb A1 none 0 c1 0 rfl LpA.out Levs.nil).mono ?_; rintro e w9 ⟨rfl, hb9⟩)
    go_ret
    exact ⟨rfl, thn BWb.out hb9⟩
  subst he
  obtain ⟨hck, hpb⟩ := OF.out rfl
  have hle := Rc.chk_lens hck
  have hfl := Rc.put_cnt (m := (k1, g1, l1)) hck
  rw [hpb, HLN.out] at hfl
  obtain ⟨x0, x1, x2⟩ := box3 PpA.out
  have lx := lt_of PpA.out
  go_upto_region 8 with (fail)
  have pp := heap_alloc_new Wb (.cells #[.int .i64 k1, .int .i64 g1, .slice A1 n1 c1] 27)
  have bb := (Below.refl Wb.heap.size Wb).alloc (Nat.le_refl _) (.cells #[.int .i64 k1, .int .i64 g1, .slice A1 n1 c1] 27)
  generalize Wb.alloc (.cells #[.int .i64 k1, .int .i64 g1, .slice A1 n1 c1] 27) = W4 at *
  obtain ⟨pB, hpe⟩ : ∃ p, Wb.heap.size = p := ⟨_, rfl⟩
  have BW4 := Lib.hid (thn BWb.out bb)
  replace PpA := Lib.hid ((bb.block _ (lt_of PpA.out)).trans PpA.out)
  replace LpA := Lib.hid (LpA.out.grow bb)
  rw [hpe] at pp ⊢
  have PpB := Lib.hid pp
  clear x0 x1 x2 lx pp hpe
  have con1 : ∀ W : World, Grows W4 W → Calls Try.prog 23 #[.agg #[.int .i64 k1, .int .i64 g1, .slice A1 n1 c1]] W fun e w' => e = .returned (.int .i64 0) ∧ Below W.heap.size W w' := fun W hW => by
    have := rhist_any k1 g1 l1 (by have := hle.1; omega) (fun i => by have := hle.2 i; omega) W A1 c1 (by rw [N1.out]; exact (LpA.out.grow hW).reads)
    rw [show chk k1 g1 l1 = 0 from hck, N1.out] at this
    exact this
  have con2 : ∀ W : World, Grows W4 W → Calls Try.prog 10 #[.agg #[.int .i64 k1, .int .i64 g1, .slice A1 n1 c1]] W fun e w' => ∃ v, e = .returned v ∧ Holds w' w'.heap.size v bs ∧ Below W.heap.size W w' := fun W hW => by
    have := rput_any k1 g1 l1 (by have := hle.1; omega) (fun i => by have := hle.2 i; omega) (by have : l1.flatten.length ≤ len0 := hfl; omega) W A1 c1 (by rw [N1.out]; exact (LpA.out.grow hW).reads)
    rw [show putM (k1, g1, l1) = bs from hpb, N1.out] at this
    refine this.mono ?_
    rintro e w' ⟨v, rfl, ho, hb⟩
    exact ⟨v, rfl, Holds.of_own ho, hb⟩
  have CON1 := Lib.hid con1
  have CON2 := Lib.hid con2
  obtain ⟨x0, x1, x2⟩ := box3 PpA.out
  have AA := Lib.hid (lt_of PpA.out)
  have Ax0 := Lib.hid x0
  have Ax1 := Lib.hid x1
  have Ax2 := Lib.hid x2
  clear x0 x1 x2
  obtain ⟨x0, x1, x2⟩ := box3 PpB.out
  have BB := Lib.hid (lt_of PpB.out)
  have Bx0 := Lib.hid x0
  have Bx1 := Lib.hid x1
  have Bx2 := Lib.hid x2
  clear x0 x1 x2
  clear con1 con2 hck hpb hle hfl bb
  refine region_facts0 (fr := ?frC) 14 [32, 33, 34, 35, 36, 37, 38, 39, 40, 41, 42, 43, 44, 45] (fun i v W => match i with
      | 0 => v = .bool true
      | 1 => v = .bool true
      | 2 => v = .agg #[.int .i64 k1, .int .i64 g1, .slice A1 n1 c1]
      | 3 => v = .int .i64 0
      | 4 => v = .bool true
      | 5 => v = .bool true
      | 6 => v = .bool true
      | 7 => v = .agg #[.int .i64 k1, .int .i64 g1, .slice A1 n1 c1]
      | 8 => Holds W W.heap.size (v) bs
      | 9 => v = .string (strOf bs)
      | 10 => v = .slice a0 len0 cap0
      | 11 => v = .string (strOf bs)
      | 12 => v = .bool true
      | 13 => v = .bool true
      | _ => True) rfl ?hBC (by kernel_rfl) (by kernel_rfl) (by kernel_rfl) ?hfrC ?hFC ?hopC ?htailC
  case hBC => kernel_rfl
  case hfrC =>
    intro us
    simp only [putL]
    go_simp
    rfl
  case hFC =>
    intro i v W W' hG h
    match i with
    | 0 => exact h
    | 1 => exact h
    | 2 => exact h
    | 3 => exact h
    | 4 => exact h
    | 5 => exact h
    | 6 => exact h
    | 7 => exact h
    | 8 => exact (Holds.below h hG).mono hG.size
    | 9 => exact h
    | 10 => exact h
    | 11 => exact h
    | 12 => exact h
    | 13 => exact h
    | n + 14 => trivial
  case hopC =>
    intro i hi us W2 hG hd
    match i, hi with
    | 0, _ =>
      clear hd
      exact hop_value rfl rfl rfl (v := .bool true) (W' := W2) (by go_simp) (Grows.refl _) rfl
    | 1, _ =>
      have h0 : us 0 = .bool true := hd 0 (by omega) (by kernel_rfl)
      clear hd
      exact hop_value rfl rfl rfl (v := .bool true) (W' := W2) (by go_simp) (Grows.refl _) rfl
    | 2, _ =>
      have h1 : us 1 = .bool true := hd 1 (by omega) (by kernel_rfl)
      clear hd
      rw [h1]
      have q0 := (hG.cell (b := pB) (o := 0) BB.out).trans Bx0.out
      have q0l := Nat.lt_of_lt_of_le BB.out hG.size
      have q1 := (hG.cell (b := pB) (o := 1) BB.out).trans Bx1.out
      have q1l := Nat.lt_of_lt_of_le BB.out hG.size
      have q2 := (hG.cell (b := pB) (o := 2) BB.out).trans Bx2.out
      have q2l := Nat.lt_of_lt_of_le BB.out hG.size
      exact hop_value rfl rfl rfl (v := .agg #[.int .i64 k1, .int .i64 g1, .slice A1 n1 c1]) (W' := W2) (by go_simp) (Grows.refl _) rfl
    | 3, _ =>
      have h1 : us 1 = .bool true := hd 1 (by omega) (by kernel_rfl)
      have h2 : us 2 = .agg #[.int .i64 k1, .int .i64 g1, .slice A1 n1 c1] := hd 2 (by omega) (by kernel_rfl)
      clear hd
      rw [h1]
      refine hop_call rfl rfl rfl (f := 23) (args := #[.agg #[.int .i64 k1, .int .i64 g1, .slice A1 n1 c1]]) (by go_simp) ?_
      refine (CON1.out W2 hG).mono ?_
      rintro e W' ⟨rfl, hb⟩
      exact ⟨_, rfl, hb, rfl⟩
    | 4, _ =>
      have h1 : us 1 = .bool true := hd 1 (by omega) (by kernel_rfl)
      have h3 : us 3 = .int .i64 0 := hd 3 (by omega) (by kernel_rfl)
      clear hd
      rw [h1]
      exact hop_value rfl rfl rfl (v := .bool true) (W' := W2) (by go_simp) (Grows.refl _) rfl
    | 5, _ =>
      have h1 : us 1 = .bool true := hd 1 (by omega) (by kernel_rfl)
      have h4 : us 4 = .bool true := hd 4 (by omega) (by kernel_rfl)
      clear hd
      exact hop_value rfl rfl rfl (v := .bool true) (W' := W2) (by go_simp) (Grows.refl _) rfl
    | 6, _ =>
      have h5 : us 5 = .bool true := hd 5 (by omega) (by kernel_rfl)
      clear hd
      exact hop_value rfl rfl rfl (v := .bool true) (W' := W2) (by go_simp) (Grows.refl _) rfl
    | 7, _ =>
      have h6 : us 6 = .bool true := hd 6 (by omega) (by kernel_rfl)
      clear hd
      rw [h6]
      have q0 := (hG.cell (b := pA) (o := 0) AA.out).trans Ax0.out
      have q0l := Nat.lt_of_lt_of_le AA.out hG.size
      have q1 := (hG.cell (b := pA) (o := 1) AA.out).trans Ax1.out
      have q1l := Nat.lt_of_lt_of_le AA.out hG.size
      have q2 := (hG.cell (b := pA) (o := 2) AA.out).trans Ax2.out
      have q2l := Nat.lt_of_lt_of_le AA.out hG.size
      exact hop_value rfl rfl rfl (v := .agg #[.int .i64 k1, .int .i64 g1, .slice A1 n1 c1]) (W' := W2) (by go_simp) (Grows.refl _) rfl
    | 8, _ =>
      have h6 : us 6 = .bool true := hd 6 (by omega) (by kernel_rfl)
      have h7 : us 7 = .agg #[.int .i64 k1, .int .i64 g1, .slice A1 n1 c1] := hd 7 (by omega) (by kernel_rfl)
      clear hd
      rw [h6]
      refine hop_call rfl rfl rfl (f := 10) (args := #[.agg #[.int .i64 k1, .int .i64 g1, .slice A1 n1 c1]]) (by go_simp) ?_
      refine (CON2.out W2 hG).mono ?_
      rintro e W' ⟨v, rfl, hh, hb⟩
      exact ⟨_, rfl, hb, hh⟩
    | 9, _ =>
      have h6 : us 6 = .bool true := hd 6 (by omega) (by kernel_rfl)
      have h8 : Holds W2 W2.heap.size (us 8) bs := hd 8 (by omega) (by kernel_rfl)
      clear hd
      rw [h6]
      have r8 := run_str h8 HBD.out
      exact hop_value rfl rfl rfl (v := .string (strOf bs)) (W' := W2) (by go_simp) (Grows.refl _) rfl
    | 10, _ =>
      have h6 : us 6 = .bool true := hd 6 (by omega) (by kernel_rfl)
      clear hd
      rw [h6]
      exact hop_value rfl rfl rfl (v := .slice a0 len0 cap0) (W' := W2) (by go_simp) (Grows.refl _) rfl
    | 11, _ =>
      have h6 : us 6 = .bool true := hd 6 (by omega) (by kernel_rfl)
      have h10 : us 10 = .slice a0 len0 cap0 := hd 10 (by omega) (by kernel_rfl)
      clear hd
      rw [h6]
      have r10 := run_str ((HH.out.below BW4.out).below (hG.mono BW4.out.size)) HBD.out
      exact hop_value rfl rfl rfl (v := .string (strOf bs)) (W' := W2) (by go_simp) (Grows.refl _) rfl
    | 12, _ =>
      have h6 : us 6 = .bool true := hd 6 (by omega) (by kernel_rfl)
      have h9 : us 9 = .string (strOf bs) := hd 9 (by omega) (by kernel_rfl)
      have h11 : us 11 = .string (strOf bs) := hd 11 (by omega) (by kernel_rfl)
      clear hd
      rw [h6]
      exact hop_value rfl rfl rfl (v := .bool true) (W' := W2) (by go_simp) (Grows.refl _) rfl
    | 13, _ =>
      have h6 : us 6 = .bool true := hd 6 (by omega) (by kernel_rfl)
      have h12 : us 12 = .bool true := hd 12 (by omega) (by kernel_rfl)
      clear hd
      exact hop_value rfl rfl rfl (v := .bool true) (W' := W2) (by go_simp) (Grows.refl _) rfl
    | d + 14, h => exact absurd h (by omega)
  case htailC =>
    intro us W2 hG hf
    have hz : us 13 = .bool true := hf 13 (by omega)
    clear hf
    rw [hz]
    have HG2 := Lib.hid hG
    clear hz hG
    simp only [List.drop_succ_cons, List.drop_zero]
    repeat (go_big_quiet_step (fail))
    refine wpQuiet_nil ?_
    rintro w' ⟨nq, rfl⟩
    have HBX := Lib.hid (below_drewN HG2.out nq)
    clear HG2
    generalize W2.drewN nq = wy at *
    go_wp2
    go_ret
    exact ⟨rfl, thn BW4.out HBX.out⟩

set_option maxRecDepth 100000 in
theorem lifted (os : Os) (started : os.Started) (H : Type) (enc : TypeId × Value → H) :
    ReturnsInHanded {} Try.checked os 6 .any (Rows.recordOneSpec.pre6 enc Try.prog Try.f6 Rows.recordOneRow.domain false) (Rows.recordOneSpec.post enc Try.prog Try.f6 false true false false) := by
  refine returnsInHanded_of_change (C := Try.checked) own started (by kernel_rfl) Try.func6
    (ChangeSpec.witness6 (enc := enc) (C := Try.checked) false ⟨#[], #[.slice none 0 0], []⟩ 8 (by kernel_rfl) (by kernel_rfl) (by kernel_rfl) (by kernel_rfl)) ?_
  intro W base args ds gs before hval0 hW hcnd _
  have hval : ∀ (j : Nat) t v, Try.f6.params[j]? = some t → args[j]? = some v → Value.okWide Try.prog W .any base t v := hval0
  have hW' := hW
  obtain ⟨p, q, hA0, hV, rfl, hfz, hnd⟩ := hW
  have hA : DataW.TrodAll enc Try.prog W 0 (fun _ => true) true Try.f6.params.toList args.toList ds p := hA0
  rw [Try.params6] at hA hval
  obtain ⟨v0, vs0, d0, ds0, p0, q0, hargs, rfl, rfl, h0, r0⟩ := trodAll_cons hA
  obtain ⟨rfl, rfl, rfl⟩ := trodAll_nil r0
  obtain rfl : args = #[v0] := by cases args; simp_all
  obtain ⟨rfl, rfl⟩ := trodVars_none hV
  obtain ⟨a0, len0, cap0, rfl⟩ := okWide_slice Try.underlying28 (hval 0 28 v0 rfl rfl)
  have k0 := h0
  have lt0 : ∀ x ∈ p0, x.block < W.heap.size := by obtain ⟨m, hm⟩ := k0; exact DataW.trod_lt m _ _ _ hm
  obtain ⟨z0, w0⟩ : ∃ zs, IsRow .u8 W a0 len0 cap0 zs := by
    obtain ⟨fuel, hf⟩ := h0
    rcases open_ints Try.underlying28 Try.underlying5 (by kernel_rfl) hf with ⟨hcs, _⟩ | ⟨x, l, c, zs, hcs, _, hl, hm, hz, _, hcell, hwz⟩
    · simp [Value.cells] at hcs
      obtain ⟨rfl, rfl, rfl⟩ := hcs
      exact ⟨[], .inl ⟨rfl, rfl, rfl, rfl⟩⟩
    · simp [Value.cells] at hcs
      obtain ⟨rfl, rfl, rfl⟩ := hcs
      exact ⟨zs, .inr ⟨_, rfl, hl, hm, by simpa using hz, hcell, hwz⟩⟩
  clear hA0 hval0
  refine (walk a0 len0 cap0 z0 W w0).mono fun e W' ⟨he, bel⟩ => ?_
  subst he
  exact ⟨_, rfl, _, _, _, [], _, [], hW', trodAll_mk1 (shut_bool Try.underlying4 _), (trodAll_cons_mk (Below.trod laidOut (by kernel_rfl) (of_decide_eq_true (by kernel_rfl)) k0 bel lt0) trodAll_mk0), rfl, bel.frame _, fun h => by cases h⟩

theorem over : Rows.recordOneRow.holds Try.pinned (OpenSpec.ofChange Rows.recordOneSpec) :=
  OpenClaim.holds_of_wide 6 Try.f6 rfl rfl rfl rfl rfl rfl rfl ⟨rfl, rfl, rfl, rfl, rfl⟩ rfl rfl rfl rfl rfl (by kernel_rfl) Try.func6 (by kernel_rfl)
    (of_decide_eq_true (by kernel_rfl)) (by unfold Func.isWrapper; first | (rw [if_pos (by decide +kernel)]; kernel_rfl) | (rw [if_neg (by decide +kernel)]; exact ⟨rfl, rfl⟩))
    (fun os started H enc _ => lifted os started H enc)

/-- The statement. -/
theorem proved : Rows.RecordOneSaid := over
#print axioms proved
end Go.Proofs.Ytmdknedngiggdaa.recordOne
