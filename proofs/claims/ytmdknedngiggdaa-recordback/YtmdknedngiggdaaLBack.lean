/-
  'skylight/skylightlaw11.RecordBack' returns true for every input, and the input reads afterwards as it read before. Conditions: none.
-/
import Derived.Test.YtmdknedngiggdaaRows
import Derived.WalkKit
import Derived.ProofKit
import Derived.OpenShut
import Derived.ShutString
import Derived.ChangeOld
import Derived.Below
import Derived.Test.YtmdknedngiggdaaJ01
import Derived.Test.YtmdknedngiggdaaJ30
namespace Go.Proofs.Ytmdknedngiggdaa.recordBack
open Go.Proofs Go.Proofs.Vm Go.Proofs.Lm Go.Proofs.Lh Go.Proofs.Rn Go.Proofs.Op Go.Proofs.Rw Go.Proofs.Rf Go.Proofs.Rc Go.Proofs.Dg
open Go.ChangeShapes Go.WideShapes Go.ChangeAt Go.RowKit
open Go.ChangeMaps (open_string shut_string)
set_option linter.unusedVariables false

theorem own : ownKnob Try.prog.godebug = none := by kernel_rfl
theorem laidOut : laidOutB Try.prog = true := by kernel_rfl

/-- A slice of integers that came in: nil, or a row of cells of its capacity, each fitting its kind. -/
def IsRow (k : IntKind) (w : World) (a : Option Addr) (len cap : Nat) (zs : List Int) : Prop :=
  (a = none ∧ len = 0 ∧ cap = 0 ∧ zs = []) ∨
  ∃ x, a = some x ∧ len ≤ cap ∧ cap ≤ maxLen ∧ zs.length = cap ∧ (∀ i, i < zs.length → w.cell? (x.add i) = some (.int k (zs.getD i 0))) ∧ ∀ n ∈ zs, (Lit.int k n).wf = true

open Go.RowKit Go.Shelf Go.Proofs.Vm Go.Proofs.Rw Go.Proofs.Lh Go.Proofs.Rf
open Go.Proofs.Rc (putM takeM oneM)

set_option maxRecDepth 100000 in
set_option maxHeartbeats 4000000 in
theorem walk (a0_0 a0_5 : Int) (a0 : Fin 4 → Option Addr) (len0 cap0 : Fin 4 → Nat) (z0 : Fin 4 → Nat → Nat → Int) (a1 : Int) (a2 : Int) (w : World) (w0_0 : (Lit.int .i64 a0_0).wf = true) (w0_5 : (Lit.int .u8 a0_5).wf = true) (w0 : ∀ j : Fin 4, Op.FlatRow [.u64, .u64] w (a0 j) (len0 j) (cap0 j) (z0 j)) (w1 : (Lit.int .u8 a1).wf = true) (w2 : (Lit.int .u16 a2).wf = true) :
    Calls Try.prog 5 #[.agg #[.int .i64 a0_0, .slice (a0 0) (len0 0) (cap0 0), .slice (a0 1) (len0 1) (cap0 1), .slice (a0 2) (len0 2) (cap0 2), .slice (a0 3) (len0 3) (cap0 3), .int .u8 a0_5], .int .u8 a1, .int .u16 a2] w fun e w' => e = .returned (.bool true) ∧ Below w.heap.size w w' := by
  obtain ⟨hm0, hm1⟩ := bounds_u8 w1
  obtain ⟨hc0, hc1⟩ := bounds_u16 w2
  obtain ⟨ct, rfl⟩ : ∃ n : Nat, a2 = (n : Int) := ⟨a2.toNat, by omega⟩
  clear w1 w2
  obtain ⟨t, hok, ht⟩ := tr_frame w0_0 w0_5 w0
  rw [ht]
  clear ht w0_0 w0_5 w0
  obtain ⟨W0, hW0⟩ : ∃ W, w.alloc (.cells t.cells 52) = W := ⟨_, rfl⟩
  have hB0 : Below w.heap.size w W0 := by rw [← hW0]; exact (Below.refl _ w).alloc (Nat.le_refl _) _
  have p0 : W0.heap[w.heap.size]? = some (.cells t.cells 52) := by rw [← hW0]; exact heap_alloc_new w _
  have HOK := Lib.hid (hok.grow hB0)
  have HB0 := Lib.hid hB0
  have P0 := Lib.hid p0
  have HW0 := Lib.hid hW0
  clear hok hB0 p0 hW0
  go_enter Try.func5, Try.ntmps5
  go_upto_region 1 with (fail)
  rw [HW0.out]
  go_upto_region 2 with (go_at_call 8; refine (awakeR_any _).mono ?_; rintro e w1 ⟨rfl, hb1⟩; have HB1 := Lib.hid hb1; clear hb1)
  have HOK1 := Lib.hid (HOK.out.grow HB1.out)
  have hp1 := (HB1.out.block _ (lt_of P0.out)).trans P0.out
  have HP1 := Lib.hid hp1
  have HW1 := Lib.hid (thn HB0.out HB1.out)
  obtain ⟨z0, z1, z5⟩ := tr_box hp1
  have z10 := z1 0 (by omega)
  have z11 := z1 1 (by omega)
  have z12 := z1 2 (by omega)
  have z13 := z1 3 (by omega)
  have l0 := lt_of hp1
  clear z1 hp1 HOK HB0 P0 HW0 HB1
  go_upto_region 4 with (go_at_call 21; refine (lightT_any t _ HOK1.out).mono ?_; rintro e w2 ⟨q, rfl, hq, hb2⟩; have HQ := Lib.hid hq; have HB2 := Lib.hid hb2; clear hq hb2; cases q)
  all_goals try (go_ret; exact ⟨rfl, thn HW1.out HB2.out⟩)
  have HLI := Lib.hid (HQ.out (by simp))
  have hp2 := (HB2.out.block _ (lt_of HP1.out)).trans HP1.out
  have HOK2 := Lib.hid (HOK1.out.grow HB2.out)
  have HW2 := Lib.hid (thn HW1.out HB2.out)
  have HP2 := Lib.hid hp2
  clear z0 z10 z11 z12 z13 z5 l0 HOK1 HP1 HW1 HB2 HQ
  obtain ⟨z0, z1, z5⟩ := tr_box hp2
  have z10 := z1 0 (by omega)
  have z11 := z1 1 (by omega)
  have z12 := z1 2 (by omega)
  have z13 := z1 3 (by omega)
  have l0 := lt_of hp2
  clear z1
  clear hp2
  have hbu := built_any t w2 HOK2.out HLI.out
  obtain ⟨kk, hkk⟩ : ∃ x, kOf t.K = x := ⟨_, rfl⟩
  obtain ⟨d, hd⟩ : ∃ x, t.deep % 5 = x := ⟨_, rfl⟩
  rw [hkk, hd] at hbu
  have hbu2 : Calls Try.prog 22 #[.agg t.cells] w2 fun e w' => ∃ (A : Option Addr) (c : Nat) (L : Lv) (N : Nat), e = .returned (.agg #[.int .i64 (kk : Int), .int .i64 (d : Int), .slice A N c]) ∧ L.length = N ∧ Levs w' w'.heap.size (.slice A N c) L ∧ Stood t kk d L ∧ Below w2.heap.size w2 w' := hbu.mono (by rintro e w' ⟨A, c, L, rfl, h1, h2, h3⟩; exact ⟨A, c, L, _, rfl, rfl, h1, h2, h3⟩)
  have HBU := Lib.hid hbu2
  have HD := Lib.hid hd
  have HKK := Lib.hid hkk
  clear hbu hbu2 hd hkk
  go_upto_region 5 with (go_at_call 22; refine HBU.out.mono ?_; rintro e w3 ⟨A, c, L, N, rfl, hN, hL3, hst, hb3⟩; have HN := Lib.hid hN; have HL3 := Lib.hid hL3; have HST := Lib.hid hst; have HB3 := Lib.hid hb3; clear hL3 hst hb3 hN)
  obtain ⟨W4, hW4⟩ : ∃ W, w3.alloc (.cells #[.int .i64 (kk : Int), .int .i64 (d : Int), .slice A N c] 27) = W := ⟨_, rfl⟩
  have hB4 : Below w3.heap.size w3 W4 := by rw [← hW4]; exact (Below.refl _ w3).alloc (Nat.le_refl _) _
  have pH : W4.heap[w3.heap.size]? = some (.cells #[.int .i64 (kk : Int), .int .i64 (d : Int), .slice A N c] 27) := by rw [← hW4]; exact heap_alloc_new w3 _
  rw [hW4]
  have hB34 := thn HB3.out hB4
  have hp4 := (hB34.block _ (lt_of HP2.out)).trans HP2.out
  have HP4 := Lib.hid hp4
  have HB4 := Lib.hid hB34
  have HW4 := Lib.hid (thn HW2.out hB34)
  have HL4 := Lib.hid (HL3.out.grow hB4)
  have HOK4 := Lib.hid (HOK2.out.grow hB34)
  obtain ⟨bH, hbH⟩ : ∃ b, w3.heap.size = b := ⟨_, rfl⟩
  rw [hbH] at pH ⊢
  have PH := Lib.hid pH
  obtain ⟨y0, y1, y2⟩ := box3 pH
  have lH := lt_of pH
  clear z0 z10 z11 z12 z13 z5 l0 HBU hW4 hB4 pH hB34 hp4 hbH HP2 HB3 HL3 HOK2 HW2
  have hst := HST.out
  have hck : chk (kk : Int) (d : Int) L = 0 := Rc.good_chk (m := ((kk : Int), (d : Int), L)) hst.good
  have hle := Rc.chk_lens hck
  have hfl := Rc.made_flat hst.made hst.k31
  have hlp := Rc.put_len (m := ((kk : Int), (d : Int), L)) hck
  have hpo := Rc.put_pos (m := ((kk : Int), (d : Int), L)) hck
  have hok := Rc.put_ok ((kk : Int), (d : Int), L)
  have h1 := Rc.one_put (m := ((kk : Int), (d : Int), L)) hck
  have h2 := Rc.one_more (m := ((kk : Int), (d : Int), L)) hck a1
  have h3 := fun k hk => Rc.one_cut (m := ((kk : Int), (d : Int), L)) hck (k := k) hk
  have hput := fun (W : World) (hW : Below W4.heap.size W4 W) => rput_any (kk : Int) (d : Int) L (by have := hle.1; omega) (fun i => by have := hle.2 i; omega) (by omega) W A c (by rw [HN.out]; exact (HL4.out.grow hW).reads)
  obtain ⟨PB, hPB⟩ : ∃ x, putM ((kk : Int), (d : Int), L) = x := ⟨_, rfl⟩
  rw [hPB] at hlp hpo hok h1 h2
  simp only [hPB] at h3 hput
  simp only [HN.out] at hput
  obtain ⟨np, hnp⟩ : ∃ n, PB.length = n := ⟨_, rfl⟩
  rw [hnp] at hlp hpo
  dsimp only at hlp
  have hnb : np ≤ 40000 := by omega
  have hnbI : (np : Int) ≤ 40000 := by omega
  obtain ⟨m, hm⟩ : ∃ m, ct % np = m := ⟨_, rfl⟩
  have hml : m < np := by rw [← hm]; exact Nat.mod_lt _ hpo
  have hrem : (ct : Int) % (np : Int) = (m : Int) := by rw [← Int.natCast_emod, hm]
  have hct : (ct : Int) ≤ 65535 := hc1
  have h3' := h3 m (by omega)
  have oo1 := fun (W : World) (v : Value) (hh : Holds W W.heap.size v PB) => oneR_any hh hok (by omega)
  have oo2 := fun (W : World) (v : Value) (hh : Holds W W.heap.size v (PB.take m)) => oneR_any hh (Rc.take_ok hok m) (by rw [List.length_take]; omega)
  have oo3 := fun (W : World) (v : Value) (hh : Holds W W.heap.size v (PB ++ [a1])) => oneR_any hh (Rc.okB_app hok (by intro x hx; rw [List.mem_singleton.1 hx]; exact ⟨hm0, hm1⟩)) (by rw [List.length_append]; simp; omega)
  rw [h1] at oo1
  rw [h3'] at oo2
  rw [h2] at oo3
  have PUT := Lib.hid hput
  have O1 := Lib.hid oo1
  have O2 := Lib.hid oo2
  have O3 := Lib.hid oo3
  have NP := Lib.hid hnp
  have CK := Lib.hid hck
  clear hst hck hle hfl hlp hok h1 h2 h3 h3' hput oo1 oo2 oo3 hPB hnp hm HST
  go_upto_region 6 with (first
    | (go_at_call 11; refine (lmade_any _ _ _ _ _ _).mono ?_; rintro e w5 ⟨rfl, hb5⟩; have HB5 := Lib.hid hb5; clear hb5)
    | (go_at_call 10; refine (PUT.out w5 HB5.out).mono ?_; rintro e wx ⟨v9, rfl, ho, hbx⟩; have HO := Lib.hid ho; have BX := Lib.hid (thn HB5.out hbx); clear ho hbx))
  have bb := BX.out
  have PHx := Lib.hid ((bb.block bH (lt_of PH.out)).trans PH.out)
  have HLx := Lib.hid (HL4.out.grow bb)
  have HWx := Lib.hid (thn HW4.out bb)
  have hh9 := Holds.of_own HO.out
  obtain ⟨A9, c9, rfl, hc9, hm9, -⟩ := hh9
  have hh9 := Holds.of_own HO.out
  rw [NP.out] at hh9 hc9 ⊢
  unfold maxLen at hm9
  have H9 := Lib.hid hh9
  clear bb hh9 y0 y1 y2 lH PH HL4 HW4 HB5 BX PUT HO
  have hpoI : ((np : Int) == 0) = false := by rw [beq_eq_false_iff_ne]; omega
  go_upto_region 9 with (go_at_call 13; refine (O1.out wx _ H9.out).mono ?_; rintro e wy ⟨u, rfl, ⟨A1, c1, rfl, hL1⟩, hby⟩; dsimp only at hL1 ⊢; rw [HN.out] at hL1 ⊢)
  have pp := heap_alloc_new wy (.cells #[.int .i64 (kk : Int), .int .i64 (d : Int), .slice A1 N c1] 30)
  have bb := thn hby ((Below.refl wy.heap.size wy).alloc (Nat.le_refl _) (.cells #[.int .i64 (kk : Int), .int .i64 (d : Int), .slice A1 N c1] 30))
  have ll := hL1.grow ((Below.refl wy.heap.size wy).alloc (Nat.le_refl _) (.cells #[.int .i64 (kk : Int), .int .i64 (d : Int), .slice A1 N c1] 30))
  generalize wy.alloc (.cells #[.int .i64 (kk : Int), .int .i64 (d : Int), .slice A1 N c1] 30) = W8 at *
  obtain ⟨pA, hpe⟩ : ∃ p, wy.heap.size = p := ⟨_, rfl⟩
  rw [hpe] at pp ⊢
  have PA := Lib.hid pp
  have LA := Lib.hid ll
  have PH8 := Lib.hid ((bb.block bH (lt_of PHx.out)).trans PHx.out)
  have LH8 := Lib.hid (HLx.out.grow bb)
  have H98 := Lib.hid ((H9.out.below bb).mono bb.size)
  have BW8 := Lib.hid (thn HWx.out bb)
  clear pp bb ll hpe hL1 hby PHx HLx HWx H9 O1 hpoI
  have hcut := H98.out.cut' m (by rw [NP.out]; omega)
  have H98m := Lib.hid hcut
  clear hcut
  have hmc : (m : Int) ≤ (c9 : Int) := by omega
  have hmI : (m : Int) < (np : Int) := by omega
  have hc9I : (c9 : Int) ≤ 9223372036854775807 := by omega
  have hmc2 : m ≤ c9 := by omega
  go_upto_region 10 with (go_at_call 13; refine (O2.out W8 _ H98m.out).mono ?_; rintro e wz ⟨u, rfl, ⟨A2, c2, rfl, -⟩, hbz⟩; dsimp only)
  have bb := thn hbz ((Below.refl wz.heap.size wz).alloc (Nat.le_refl _) (.cells #[.int .i64 0, .int .i64 0, .slice A2 ([] : List (List (Nat × Nat))).length c2] 30))
  generalize wz.alloc (.cells #[.int .i64 0, .int .i64 0, .slice A2 ([] : List (List (Nat × Nat))).length c2] 30) = W9 at *
  have PA9 := Lib.hid ((bb.block pA (lt_of PA.out)).trans PA.out)
  have LA9 := Lib.hid (LA.out.grow bb)
  have PH9 := Lib.hid ((bb.block bH (lt_of PH8.out)).trans PH8.out)
  have LH9 := Lib.hid (LH8.out.grow bb)
  have H99 := Lib.hid ((H98.out.below bb).mono bb.size)
  have BW9 := Lib.hid (thn BW8.out bb)
  clear bb hbz PA LA PH8 LH8 H98 BW8 O2 H98m
  go_upto_region 11 with (first
    | (at_builtin; (refine wpList_app _ rfl (.tmp 46) (.tmp 47) rfl W9.heap.size _ _ [] PB W9.heap.size rfl (World.ownsRow_made W9 #[] 0 (Nat.le_refl _) (by decide) rfl) rfl (H99.out.alloc (Nat.le_refl _) _) (by rw [NP.out]; simp; omega) (by simp) ?_; intro v1 wq ho1 hg1; rw [List.nil_append] at ho1; have OA := Lib.hid ho1; have GA := Lib.hid (((Below.refl W9.heap.size W9).alloc (Nat.le_refl _) (.cells #[] 5)).grown hg1 (by simp) (fun k hk => by cases hk; exact Nat.le_refl _)); clear ho1 hg1))
    | (at_builtin; (refine wpList_app _ rfl (.tmp 48) (.tmp 50) rfl W9.heap.size _ _ PB [a1] (wq.heap.size + 1) rfl (OA.out.alloc _) rfl (Holds.lit wq wq.heap.size rfl [a1] _ 1 rfl rfl (by simp [maxLen])) (by rw [NP.out]; simp; omega) (by have := GA.out.size; simp; omega) ?_; intro v2 wr ho2 hg2; have OB := Lib.hid ho2; have GB := Lib.hid ((GA.out.alloc GA.out.size _).grown hg2 (by have := GA.out.size; simp; omega) (fun k hk => (OA.out.lt k hk).1)); clear ho2 hg2))
    | (go_at_call 13; refine (O3.out wr v2 (Holds.of_own OB.out)).mono ?_; rintro e wz2 ⟨u, rfl, ⟨A3, c3, rfl, -⟩, hbz⟩; dsimp only))
  have bb := thn (thn GB.out hbz) ((Below.refl wz2.heap.size wz2).alloc (Nat.le_refl _) (.cells #[.int .i64 0, .int .i64 0, .slice A3 ([] : List (List (Nat × Nat))).length c3] 30))
  generalize wz2.alloc (.cells #[.int .i64 0, .int .i64 0, .slice A3 ([] : List (List (Nat × Nat))).length c3] 30) = WA at *
  have q1 := (bb.block pA (lt_of PA9.out)).trans PA9.out
  have q2 := (bb.block bH (lt_of PH9.out)).trans PH9.out
  have L1 := Lib.hid (LA9.out.grow bb)
  have L2 := Lib.hid (LH9.out.grow bb)
  have BWA := Lib.hid (thn BW9.out bb)
  obtain ⟨x0, x1, x2⟩ := box3 q1
  have lx := lt_of q1
  obtain ⟨y0, y1, y2⟩ := box3 q2
  have ly := lt_of q2
  clear bb hbz q1 q2 PA9 LA9 PH9 LH9 H99 BW9 O3 OA GA OB GB
  go_wp2_with (go_at_call 18; refine (same_told (m := ((kk : Int), (d : Int), L)) (.inl CK.out) WA A1 A N c1 c HN.out L1.out L2.out).mono ?_; rintro e wB ⟨rfl, hbB⟩)
  go_ret
  exact ⟨rfl, thn BWA.out hbB⟩

set_option maxRecDepth 100000 in
theorem lifted (os : Os) (started : os.Started) (H : Type) (enc : TypeId × Value → H) :
    ReturnsInHanded {} Try.checked os 5 .any (Rows.recordBackSpec.pre6 enc Try.prog Try.f5 Rows.recordBackRow.domain false) (Rows.recordBackSpec.post enc Try.prog Try.f5 false true false false) := by
  refine returnsInHanded_of_change (C := Try.checked) own started (by kernel_rfl) Try.func5
    (ChangeSpec.witness6 (enc := enc) (C := Try.checked) false ⟨#[], #[.agg #[.int .i64 0, .slice none 0 0, .slice none 0 0, .slice none 0 0, .slice none 0 0, .int .u8 0], .int .u8 0, .int .u16 0], []⟩ 8 (by kernel_rfl) (by kernel_rfl) (by kernel_rfl) (by kernel_rfl)) ?_
  intro W base args ds gs before hval0 hW hcnd _
  have hval : ∀ (j : Nat) t v, Try.f5.params[j]? = some t → args[j]? = some v → Value.okWide Try.prog W .any base t v := hval0
  have hW' := hW
  obtain ⟨p, q, hA0, hV, rfl, hfz, hnd⟩ := hW
  have hA : DataW.TrodAll enc Try.prog W 0 (fun _ => true) true Try.f5.params.toList args.toList ds p := hA0
  rw [Try.params5] at hA hval
  obtain ⟨v0, vs0, d0, ds0, p0, q0, hargs, rfl, rfl, h0, r0⟩ := trodAll_cons hA
  obtain ⟨v1, vs1, d1, ds1, p1, q1, rfl, rfl, rfl, h1, r1⟩ := trodAll_cons r0
  obtain ⟨v2, vs2, d2, ds2, p2, q2, rfl, rfl, rfl, h2, r2⟩ := trodAll_cons r1
  obtain ⟨rfl, rfl, rfl⟩ := trodAll_nil r2
  obtain rfl : args = #[v0, v1, v2] := by cases args; simp_all
  obtain ⟨rfl, rfl⟩ := trodVars_none hV
  have k0 := h0
  have lt0 : ∀ x ∈ p0, x.block < W.heap.size := by obtain ⟨m, hm⟩ := k0; exact DataW.trod_lt m _ _ _ hm
  obtain ⟨a0_0, a0_5, a0, len0, cap0, z0, rfl, w0_0, w0_5, w0⟩ := Op.open_tree (f := 9) (e1 := 49) (e := 63) Try.underlying52 (by kernel_rfl) (by kernel_rfl) (by kernel_rfl) (by kernel_rfl) ⟨rfl, rfl, rfl⟩ ⟨by kernel_rfl, by kernel_rfl, by kernel_rfl⟩ (by kernel_rfl) (by kernel_rfl) (by kernel_rfl) (by kernel_rfl) (hval 0 52 v0 rfl rfl) h0
  obtain ⟨a1, rfl, rfl, rfl, w1⟩ := open_int Try.underlying5 (hval 1 5 v1 rfl rfl) h1
  obtain ⟨a2, rfl, rfl, rfl, w2⟩ := open_int Try.underlying53 (hval 2 53 v2 rfl rfl) h2
  clear hA0 hval0
  refine (walk a0_0 a0_5 a0 len0 cap0 z0 a1 a2 W w0_0 w0_5 w0 w1 w2).mono fun e W' ⟨he, bel⟩ => ?_
  subst he
  exact ⟨_, rfl, _, _, _, [], _, [], hW', trodAll_mk1 (shut_bool Try.underlying4 _), (trodAll_cons_mk (Below.trod laidOut (by kernel_rfl) (of_decide_eq_true (by kernel_rfl)) k0 bel lt0) (trodAll_cons_mk (shut_int Try.underlying5 w1) (trodAll_cons_mk (shut_int Try.underlying53 w2) trodAll_mk0))), rfl, bel.frame _, fun h => by cases h⟩

theorem over : Rows.recordBackRow.holds Try.pinned (OpenSpec.ofChange Rows.recordBackSpec) :=
  OpenClaim.holds_of_wide 5 Try.f5 rfl rfl rfl rfl rfl rfl rfl ⟨rfl, rfl, rfl, rfl, rfl⟩ rfl rfl rfl rfl rfl (by kernel_rfl) Try.func5 (by kernel_rfl)
    (of_decide_eq_true (by kernel_rfl)) (by unfold Func.isWrapper; first | (rw [if_pos (by decide +kernel)]; kernel_rfl) | (rw [if_neg (by decide +kernel)]; exact ⟨rfl, rfl⟩))
    (fun os started H enc _ => lifted os started H enc)

/-- The statement. -/
theorem proved : Rows.RecordBackSaid := over
#print axioms proved
end Go.Proofs.Ytmdknedngiggdaa.recordBack
