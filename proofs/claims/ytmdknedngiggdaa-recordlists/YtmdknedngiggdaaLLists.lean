/-
  'skylight/skylightlaw11.RecordLists' returns true for every input, and the input reads afterwards as it read before. Conditions: none.
-/
import Derived.Test.YtmdknedngiggdaaRows
import Derived.WalkKit
import Derived.ProofKit
import Derived.OpenShut
import Derived.ShutString
import Derived.ChangeOld
import Derived.Below
import Derived.Test.YtmdknedngiggdaaJ01
import Derived.Test.YtmdknedngiggdaaJ30
namespace Go.Proofs.Ytmdknedngiggdaa.recordLists
open Go.Proofs Go.Proofs.Vm Go.Proofs.Lm Go.Proofs.Lh Go.Proofs.Rn Go.Proofs.Op Go.Proofs.Rw Go.Proofs.Rf Go.Proofs.Rc Go.Proofs.Dg
open Go.ChangeShapes Go.WideShapes Go.ChangeAt Go.RowKit
open Go.ChangeMaps (open_string shut_string)
set_option linter.unusedVariables false

theorem own : ownKnob Try.prog.godebug = none := by kernel_rfl
theorem laidOut : laidOutB Try.prog = true := by kernel_rfl

/-- A slice of integers that came in: nil, or a row of cells of its capacity, each fitting its kind. -/
def IsRow (k : IntKind) (w : World) (a : Option Addr) (len cap : Nat) (zs : List Int) : Prop :=
  (a = none ∧ len = 0 ∧ cap = 0 ∧ zs = []) ∨
  ∃ x, a = some x ∧ len ≤ cap ∧ cap ≤ maxLen ∧ zs.length = cap ∧ (∀ i, i < zs.length → w.cell? (x.add i) = some (.int k (zs.getD i 0))) ∧ ∀ n ∈ zs, (Lit.int k n).wf = true

open Go.RowKit Go.Shelf Go.Proofs.Vm Go.Proofs.Rw Go.Proofs.Lh Go.Proofs.Rf
open Go.Proofs.Rc (putM takeM oneM mOf bOf)

set_option maxRecDepth 100000 in
set_option maxHeartbeats 4000000 in
theorem walk (a0 : Int) (a1 : Option Addr) (cap1 : Nat) (ls1 : List (List Rw.Sp)) (w : World) (w0 : (Lit.int .i64 a0).wf = true) (w1 : Rw.Reads w w.heap.size (.slice a1 ls1.length cap1) ls1) (wb1 : ∀ l ∈ ls1, ∀ y ∈ l, y.1 < 18446744073709551616 ∧ y.2 < 18446744073709551616) :
    Calls Try.prog 7 #[.int .i64 a0, .slice a1 ls1.length cap1] w fun e w' => e = .returned (.bool true) ∧ Below w.heap.size w w' := by
  obtain ⟨b00, b01⟩ := bounds_i64 w0
  obtain ⟨k2, k31⟩ := kOf_le a0
  have hma := fun (ds : List (Nat × Nat)) (W : World) (Ad : Option Addr) (nd cd : Nat) (hD : Deeds W Ad nd cd ds) => rmade_any a0 b00 (by omega) ds W Ad nd cd hD
  obtain ⟨kk, hkk⟩ : ∃ x, kOf a0 = x := ⟨_, rfl⟩
  rw [hkk] at k2 k31
  simp only [hkk] at hma
  have hrd := w1
  have hbd := wb1
  obtain ⟨N, hN⟩ : ∃ x, ls1.length = x := ⟨_, rfl⟩
  rw [hN] at hrd ⊢
  have HRD := Lib.hid hrd
  have HBD := Lib.hid hbd
  have HN := Lib.hid hN
  have HMA := Lib.hid hma
  clear hrd hbd hN hma w0 w1 wb1 hkk b00 b01
  by_cases h4 : N ≤ 4
  case neg =>
    have h4i : decide ((4 : Int) < (N : Int)) = true := by rw [decide_eq_true_iff]; omega
    go_enter Try.func7, Try.ntmps7
    go_wp2_with (go_at_call 8; refine (awakeR_any _).mono ?_; rintro e wa ⟨rfl, ha⟩)
    go_ret
    exact ⟨rfl, ha⟩
  have h4i : (N : Int) ≤ 4 := by omega
  go_enter Try.func7, Try.ntmps7
  go_upto_region 4 with (go_at_call 8; refine (awakeR_any _).mono ?_; rintro e wa ⟨rfl, ha⟩)
  have HA := Lib.hid ha
  clear ha
  go_wp2
  go_loopw [6, 7] (fun s6 s7 wr => ∃ (i : Nat) (v : Value), v = s6 ∧ s7 = .int .i64 (i : Int) ∧ i ≤ N ∧ Hid (wr.ownsRow w.heap.size 5 1 v ((ls1.take i).flatMap (bOf kk)).length (((ls1.take i).flatMap (bOf kk)).map (Value.int .u8))) ∧ Hid (Below w.heap.size w wr)) (fun _ s7 _ => N - (intOf s7).toNat)
  case atStart => exact ⟨0, _, rfl, rfl, Nat.zero_le _, Lib.hid (World.ownsRow_nil _ _ _ _), HA⟩
  case round =>
    obtain ⟨i, v, rfl, rfl, hiN, HO, HB⟩ := hrel
    clear HA
    by_cases hlt : i < N
    · have hil : i < ls1.length := by rw [HN.out]; exact hlt
      obtain ⟨b, off, rfl, hb, -, hc⟩ := HRD.out.at (by omega)
      obtain ⟨Ai, ci, q0, hci, hci2, hLi⟩ := hc i hil
      have hcat := Rc.cat_succ (bOf kk) ls1 i hil
      have hbi := HBD.out ls1[i] (List.getElem_mem hil)
      have hcl := Rc.cat_len k2 k31 (ls1.take i)
      have htl : (ls1.take i).length ≤ 4 := by rw [List.length_take]; omega
      obtain ⟨ds, hds⟩ : ∃ d, ls1[i] = d := ⟨_, rfl⟩
      rw [hds] at q0 hci hLi hcat hbi
      have hbl := Rc.bOf_len k2 k31 ds
      obtain ⟨BB, hBB⟩ : ∃ x, (ls1.take i).flatMap (bOf kk) = x := ⟨_, rfl⟩
      rw [hBB] at hcat hcl HO
      obtain ⟨nd, hnd⟩ : ∃ n, ds.length = n := ⟨_, rfl⟩
      rw [hnd] at q0 hci hLi
      have q1 := (HB.out.cell (p := ⟨b, off + i, none⟩) hb).trans q0
      have lb : b < wr.heap.size := Nat.lt_of_lt_of_le hb HB.out.size
      have hmk := HMA.out ds wr Ai nd ci ⟨hnd, (hLi.below HB.out).mono HB.out.size, hbi⟩
      have hme : ∃ m : Hm, m = mOf kk ds := ⟨_, rfl⟩
      have hck := Rc.mOf_chk k2 k31 ds
      have hfl := Rc.mOf_flat k2 k31 ds
      have hpe : putM (mOf kk ds) = bOf kk ds := rfl
      have hmo : mOf kk ds = ((kk : Int), 0, (play kk ds (doneN ds)).2) := rfl
      rw [hmo] at hck hfl hpe
      obtain ⟨P, hP⟩ : ∃ p, (play kk ds (doneN ds)).2 = p := ⟨_, rfl⟩
      rw [hP] at hck hfl hpe hmk
      obtain ⟨np, hnp⟩ : ∃ n, P.length = n := ⟨_, rfl⟩
      rw [hnp] at hmk
      dsimp only at hck hfl
      have hle := Rc.chk_lens hck
      obtain ⟨PB, hPB⟩ : ∃ p, bOf kk ds = p := ⟨_, rfl⟩
      rw [hPB] at hpe hcat hbl
      have hput : ∀ (W : World) (A : Option Addr) (c : Nat), Levs W W.heap.size (.slice A np c) P → Calls Try.prog 10 #[hv (kk : Int) 0 (.slice A np c)] W fun e w' => ∃ v, e = .returned v ∧ Holds w' w'.heap.size v PB ∧ Below W.heap.size W w' := by
        intro W A c hL
        have := rput_any (kk : Int) 0 P (by have := hle.1; omega) (fun i => by have := hle.2 i; omega) (by omega) W A c (by rw [hnp]; exact hL.reads)
        rw [hpe, hnp] at this
        refine this.mono ?_
        rintro e w' ⟨v, rfl, ho, hb⟩
        exact ⟨v, rfl, Holds.of_own ho, hb⟩
      have MK := Lib.hid hmk
      have PUT := Lib.hid hput
      have CAT := Lib.hid hcat
      have CL := Lib.hid (show BB.length ≤ 137920 by omega)
      have BL := Lib.hid hbl
      clear hc q0 hci hci2 hLi hcat hbi hcl htl hds hbl hBB hnd hmk hme hck hfl hpe hmo hP hnp hle hPB hput hil
      go_upto_region 7 with (first
        | (go_at_call 24; refine MK.out.mono ?_; rintro e w2 ⟨A2, c2, rfl, hL2, hb2⟩; have HL2 := Lib.hid hL2; have HB2 := Lib.hid hb2; clear hL2 hb2)
        | (go_at_call 11; refine (lmade_any _ _ _ _ _ _).mono ?_; rintro e w3 ⟨rfl, hb3⟩; have HL3 := Lib.hid (HL2.out.grow hb3); have HB3 := Lib.hid (thn HB2.out hb3); clear hb3)
        | (go_at_call 10; refine (PUT.out _ _ _ HL3.out).mono ?_; rintro e w4 ⟨v4, rfl, hh4, hb4⟩; have HH4 := Lib.hid hh4; have HB4 := Lib.hid (thn HB3.out hb4); clear hh4 hb4)
        | (at_builtin; refine wpList_app _ rfl (.tmp 21) (.tmp 29) rfl w.heap.size _ _ BB PB w4.heap.size rfl (ownsRow_below HO.out HB4.out) rfl HH4.out (by have := CL.out; have := BL.out; omega) (Nat.le_trans HB.out.size HB4.out.size) ?_; intro v5 w5 ho5 hg5; have HO5 := Lib.hid ho5; have HB5 := Lib.hid ((thn HB.out HB4.out).grown hg5 (Nat.le_trans HB.out.size HB4.out.size) (fun k hk => (HO.out.lt k hk).1)); clear ho5 hg5))
      go_wp2
      refine ⟨⟨i + 1, v5, rfl, by go_num, hlt, Lib.hid ?_, HB5⟩, by simp [intOf]; omega⟩
      rw [CAT.out]
      exact HO5.out
    · have e : i = N := by omega
      subst e
      have hall : ls1.take i = ls1 := List.take_of_length_le (by rw [HN.out]; omega)
      rw [hall] at HO
      have hcl := Rc.cat_len k2 k31 ls1
      rw [HN.out] at hcl
      have hok := fun j => Rc.cat_ok (kk := kk) (ls1.drop j)
      have hnew := new_any (Holds.of_own HO.out) (by omega)
      have hz0 : (ls1.drop 0).flatMap (bOf kk) = ls1.flatMap (bOf kk) := by rw [List.drop_zero]
      have hzn : (ls1.drop i).flatMap (bOf kk) = [] := by rw [List.drop_of_length_le (by rw [HN.out]; omega)]; rfl
      have NEW := Lib.hid hnew
      have HOK := Lib.hid hok
      have HZ0 := Lib.hid hz0
      have HZN := Lib.hid hzn
      clear hall hcl hok hnew hz0 hzn hlt hiN
      rename World => wo
      go_upto_region 10 with (go_at_call 15; refine NEW.out.mono ?_; rintro e wp ⟨rb, rfl, hrb, hrd, hbp⟩; have RB := Lib.hid (show w.heap.size ≤ rb from Nat.le_trans HB.out.size hrb); have RD := Lib.hid hrd; have BP := Lib.hid (thn HB.out hbp); clear hrb hrd hbp)
      clear NEW HO HB
      go_wp2
      go_loopw [9] (fun s9 wr => ∃ j : Nat, s9 = .int .i64 (j : Int) ∧ j ≤ i ∧ Hid (Rd wr rb ((ls1.drop j).flatMap (bOf kk)) 0) ∧ Hid (Below w.heap.size w wr)) (fun s9 _ => i - (intOf s9).toNat)
      case atStart => exact ⟨0, rfl, Nat.zero_le _, Lib.hid (by rw [HZ0.out]; exact RD.out), BP⟩
      case round =>
        obtain ⟨j, rfl, hjn, HR, HB⟩ := hrel
        clear RD BP
        by_cases hlt : j < i
        · have hil : j < ls1.length := by rw [HN.out]; exact hlt
          obtain ⟨b, off, rfl, hb, -, hc⟩ := HRD.out.at (by omega)
          obtain ⟨Ai, ci, q0, hci, hci2, hLi⟩ := hc j hil
          have hcat := Rc.cat_drop (bOf kk) ls1 j hil
          have hbi := HBD.out ls1[j] (List.getElem_mem hil)
          obtain ⟨ds, hds⟩ : ∃ d, ls1[j] = d := ⟨_, rfl⟩
          rw [hds] at q0 hci hLi hcat hbi
          obtain ⟨nd, hnd⟩ : ∃ n, ds.length = n := ⟨_, rfl⟩
          rw [hnd] at q0 hci hLi
          have q1 := (HB.out.cell (p := ⟨b, off + j, none⟩) hb).trans q0
          have lb : b < wr.heap.size := Nat.lt_of_lt_of_le hb HB.out.size
          have hmk := fun (W : World) (hW : Below w.heap.size w W) => HMA.out ds W Ai nd ci ⟨hnd, (hLi.below hW).mono hW.size, hbi⟩
          have hck := Rc.mOf_chk k2 k31 ds
          have hmo : mOf kk ds = ((kk : Int), 0, (play kk ds (doneN ds)).2) := rfl
          have hR := HR.out
          have hok := HOK.out j
          rw [hcat] at hR hok
          have htk := takeR_any (w := wr.drew) (show Rd wr.drew rb _ 0 from hR) hok
          rw [Rc.take_bOf k2 k31, hmo] at htk
          rw [hmo] at hck
          obtain ⟨P, hP⟩ : ∃ p, (play kk ds (doneN ds)).2 = p := ⟨_, rfl⟩
          simp only [hP] at hmk
          rw [hP] at hck htk
          obtain ⟨np, hnp⟩ : ∃ n, P.length = n := ⟨_, rfl⟩
          simp only [hnp] at hmk
          have hsa := fun (W : World) (A A2 : Option Addr) (c c2 : Nat) (h1 : Levs W W.heap.size (.slice A np c) P) (h2 : Levs W W.heap.size (.slice A2 np c2) P) => same_told (m := ((kk : Int), 0, P)) (.inl hck) W A A2 np c c2 hnp h1 h2
          have keep : ∀ W : World, wr.drew.grownBy W (some rb) → W.cell? ⟨b, off + j, none⟩ = some (.slice Ai nd ci) ∧ b < W.heap.size ∧ Below w.heap.size w W := by
            intro W hg
            have hrb := RB.out
            refine ⟨?_, Nat.lt_of_lt_of_le lb hg.size, ?_⟩
            · exact (World.cell?_of_block (a := ⟨b, off + j, none⟩) (hg.block b lb (by simp; omega))).trans q1
            · exact thnG HB.out ⟨hg.os, hg.tape, hg.output, hg.size, hg.block⟩ hrb
          have MK := Lib.hid hmk
          have TK := Lib.hid htk
          have SA := Lib.hid hsa
          have KEEP := Lib.hid keep
          have NP := Lib.hid hnp
          clear hc q0 hci hci2 hLi hcat hbi hds hnd hmk hck hmo hR hok htk hP hnp hsa keep hil
          go_upto_region 13 with (fail)
          go_region_law (first
            | (go_simp; (with_reducible refine TK.out.mono ?_); rintro e w2 ⟨u, rfl, ⟨A2, c2, rfl, hL2⟩, hr2, hg2⟩; dsimp only at hL2 hr2; rw [NP.out] at hL2 ⊢; obtain ⟨q2, lb2, hb2⟩ := KEEP.out w2 hg2; have HL2 := Lib.hid hL2; have HR2 := Lib.hid hr2; have HB2 := Lib.hid hb2; clear hL2 hr2 hg2 hb2; dsimp only)
            | (go_simp; (with_reducible refine (MK.out _ HB2.out).mono ?_); rintro e w3 ⟨A3, c3, rfl, hL3, hb3⟩; have HL3 := Lib.hid hL3; have HL23 := Lib.hid (HL2.out.grow hb3); have HR3 := Lib.hid (HR2.out.below hb3 HR2.out.lt); have HB3 := Lib.hid (thn HB2.out hb3); clear hL3 hb3; dsimp only)
            | (go_simp; (with_reducible refine (SA.out _ _ _ _ _ HL23.out HL3.out).mono ?_); rintro e w4 ⟨rfl, hb4⟩; have HR4 := Lib.hid (HR3.out.below hb4 HR3.out.lt); have HB4 := Lib.hid (thn HB3.out hb4); clear hb4; dsimp only))
          all_goals
            go_wp2
            refine ⟨⟨j + 1, by go_num, hlt, HR4, HB4⟩, by simp [intOf]; omega⟩
        · have e : j = i := by omega
          subst e
          rw [HZN.out] at HR
          have hen := end_any HR.out
          rw [show rEnd [] 0 = 0 from rfl] at hen
          have EN := Lib.hid hen
          clear hlt hen
          go_wp2_with (go_at_call 25; (with_reducible refine EN.out.mono ?_); rintro e w5 ⟨rfl, rfl⟩)
          go_ret
          exact ⟨rfl, HB.out⟩

set_option maxRecDepth 100000 in
theorem lifted (os : Os) (started : os.Started) (H : Type) (enc : TypeId × Value → H) :
    ReturnsInHanded {} Try.checked os 7 .any (Rows.recordListsSpec.pre6 enc Try.prog Try.f7 Rows.recordListsRow.domain false) (Rows.recordListsSpec.post enc Try.prog Try.f7 false true false false) := by
  refine returnsInHanded_of_change (C := Try.checked) own started (by kernel_rfl) Try.func7
    (ChangeSpec.witness6 (enc := enc) (C := Try.checked) false ⟨#[], #[.int .i64 0, .slice none 0 0], []⟩ 8 (by kernel_rfl) (by kernel_rfl) (by kernel_rfl) (by kernel_rfl)) ?_
  intro W base args ds gs before hval0 hW hcnd _
  have hval : ∀ (j : Nat) t v, Try.f7.params[j]? = some t → args[j]? = some v → Value.okWide Try.prog W .any base t v := hval0
  have hW' := hW
  obtain ⟨p, q, hA0, hV, rfl, hfz, hnd⟩ := hW
  have hA : DataW.TrodAll enc Try.prog W 0 (fun _ => true) true Try.f7.params.toList args.toList ds p := hA0
  rw [Try.params7] at hA hval
  obtain ⟨v0, vs0, d0, ds0, p0, q0, hargs, rfl, rfl, h0, r0⟩ := trodAll_cons hA
  obtain ⟨v1, vs1, d1, ds1, p1, q1, rfl, rfl, rfl, h1, r1⟩ := trodAll_cons r0
  obtain ⟨rfl, rfl, rfl⟩ := trodAll_nil r1
  obtain rfl : args = #[v0, v1] := by cases args; simp_all
  obtain ⟨rfl, rfl⟩ := trodVars_none hV
  obtain ⟨a0, rfl, rfl, rfl, w0⟩ := open_int Try.underlying3 (hval 0 3 v0 rfl rfl) h0
  have k1 := h1
  have lt1 : ∀ x ∈ p1, x.block < W.heap.size := by obtain ⟨m, hm⟩ := k1; exact DataW.trod_lt m _ _ _ hm
  obtain ⟨a1, cap1, ls1, rfl, w1, wb1⟩ := Op.open_lists (f := 9) (e1 := 49) (e := 63) Try.underlying58 (by kernel_rfl) (by kernel_rfl) (by kernel_rfl) (by kernel_rfl) (hval 1 58 v1 rfl rfl) h1
  clear hA0 hval0
  refine (walk a0 a1 cap1 ls1 W w0 w1 wb1).mono fun e W' ⟨he, bel⟩ => ?_
  subst he
  exact ⟨_, rfl, _, _, _, [], _, [], hW', trodAll_mk1 (shut_bool Try.underlying4 _), (trodAll_cons_mk (shut_int Try.underlying3 w0) (trodAll_cons_mk (Below.trod laidOut (by kernel_rfl) (of_decide_eq_true (by kernel_rfl)) k1 bel lt1) trodAll_mk0)), rfl, bel.frame _, fun h => by cases h⟩

theorem over : Rows.recordListsRow.holds Try.pinned (OpenSpec.ofChange Rows.recordListsSpec) :=
  OpenClaim.holds_of_wide 7 Try.f7 rfl rfl rfl rfl rfl rfl rfl ⟨rfl, rfl, rfl, rfl, rfl⟩ rfl rfl rfl rfl rfl (by kernel_rfl) Try.func7 (by kernel_rfl)
    (of_decide_eq_true (by kernel_rfl)) (by unfold Func.isWrapper; first | (rw [if_pos (by decide +kernel)]; kernel_rfl) | (rw [if_neg (by decide +kernel)]; exact ⟨rfl, rfl⟩))
    (fun os started H enc _ => lifted os started H enc)

/-- The statement. -/
theorem proved : Rows.RecordListsSaid := over
#print axioms proved
end Go.Proofs.Ytmdknedngiggdaa.recordLists
