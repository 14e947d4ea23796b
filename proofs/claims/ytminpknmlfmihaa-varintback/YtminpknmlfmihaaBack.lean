/-
  'skylight/skylightlaw01.VarintBack' returns true for every input, and the input reads afterwards as it read before. Conditions: none.
-/
import Derived.Test.YtminpknmlfmihaaRows
import Derived.WalkKit
import Derived.ProofKit
import Derived.OpenShut
import Derived.ShutString
import Derived.ChangeOld
import Derived.Below
import Derived.Test.YtminpknmlfmihaaAwake
namespace Go.Proofs.Ytminpknmlfmihaa.varintBack
open Go.Proofs.Vm Go.Proofs.Rf
open Go.ChangeShapes Go.WideShapes Go.ChangeAt Go.RowKit
open Go.ChangeMaps (open_string shut_string)
set_option linter.unusedVariables false

theorem own : ownKnob Try.prog.godebug = none := by kernel_rfl
theorem laidOut : laidOutB Try.prog = true := by kernel_rfl

/-- WHAT THE WALK IS TOLD OF A SLICE OF INTEGERS THAT CAME IN: it is nil; or it leads to a row of 'cap' cells, the numbers 'zs' (the first 'len' are its elements, the rest its spare room), each fitting its kind. -/
def IsRow (k : IntKind) (w : World) (a : Option Addr) (len cap : Nat) (zs : List Int) : Prop :=
  (a = none ∧ len = 0 ∧ cap = 0 ∧ zs = []) ∨
  ∃ x, a = some x ∧ len ≤ cap ∧ cap ≤ maxLen ∧ zs.length = cap ∧ (∀ i, i < zs.length → w.cell? (x.add i) = some (.int k (zs.getD i 0))) ∧ ∀ n ∈ zs, (Lit.int k n).wf = true

/-! ### STEP 1: THE WALK: the Go text returns true, AND WRITES NOTHING THAT WAS THERE: 'Below w.heap.size w w'' (Derived/Below.lean: '.refl', '.alloc', '.drew', '.setCell' at a new block, '.trans'). Open each 'IsRow' by 'rcases' AHEAD of 'go_enter'; part every test ahead of the walk. -/
set_option maxRecDepth 100000 in
set_option maxHeartbeats 2000000 in
theorem walk (a0 : Int) (a1 : Option Addr) (len1 cap1 : Nat) (z1 : List Int) (a2 : Int) (w : World) (w0 : (Lit.int .u64 a0).wf = true) (w1 : IsRow .u8 w a1 len1 cap1 z1) (w2 : (Lit.int .u8 a2).wf = true) :
    Calls Try.prog 4 #[.int .u64 a0, .slice a1 len1 cap1, .int .u8 a2] w fun e w' => e = .returned (.bool true) ∧ Below w.heap.size w w' := by
  obtain ⟨b0, b1⟩ := bounds_u64 w0
  obtain ⟨c0, c1⟩ := bounds_u8 w2
  obtain ⟨x, rfl⟩ : ∃ x : Nat, a0 = x := ⟨a0.toNat, by omega⟩
  obtain ⟨y, rfl⟩ : ∃ y : Nat, a2 = y := ⟨a2.toNat, by omega⟩
  clear w0 w2
  have hx : x < 18446744073709551616 := by omega
  obtain ⟨hm, hml, hmb⟩ := holds_of_row w1
  clear w1
  obtain ⟨more, hmore⟩ : ∃ more, z1.take len1 = more := ⟨_, rfl⟩
  rw [hmore] at hm hml hmb
  subst hml
  have hcm : more.length ≤ cap1 ∧ cap1 ≤ maxLen := by obtain ⟨A, c, hv, g1, g2, _⟩ := hm; injection hv with _ _ e3; subst e3; exact ⟨g1, g2⟩
  unfold maxLen at hcm
  have hcm2 := hcm.2
  have hcm1 := hcm.1
  have HM := Lib.hid hm
  have HMB := Lib.hid hmb
  clear hmore hm hmb hcm
  by_cases h100 : 100 < more.length
  · go_enter Try.func4, Try.ntmps4
    go_wp2_with (go_at_call 8; refine (awake_any _).mono ?_; rintro e wa ⟨rfl, hba⟩; have HA := Lib.hid hba; clear hba)
    go_ret
    exact ⟨rfl, HA.out⟩
  · have hpos := vput_len_pos x
    have hl10 := vput_len10 x hx
    have HHX := Lib.hid hx
    have HT1 := Lib.hid (vtake_put x hx more)
    have HT2 := Lib.hid (fun k => vtake_cut x hx k)
    have HBD := Lib.hid (vput_bounds x)
    obtain ⟨bs, hbs⟩ : ∃ bs, vput x = bs := ⟨_, rfl⟩
    rw [hbs] at hpos hl10 HT1 HT2 HBD
    have HBS := Lib.hid hbs
    clear hbs hx b0
    have hr2 : y % bs.length < bs.length := Nat.mod_lt _ hpos
    have hr0 : 0 ≤ (y : Int) % (bs.length : Int) := by omega
    have hr3 : ((y : Int) % (bs.length : Int)).toNat = y % bs.length := by omega
    have hr4 : (y : Int) % (bs.length : Int) ≤ (bs.length : Int) := by omega
    go_enter Try.func4, Try.ntmps4
    go_wp2_with (first
      | (go_at_call 8; refine (awake_any _).mono ?_; rintro e wa ⟨rfl, hba⟩; have HA := Lib.hid hba; clear hba)
      | (go_at_call 11; with_reducible refine (put_own x bs HHX.out HBS.out _).mono ?_; rintro e wb ⟨b, off, cap, rfl, hcap1, hcap2, hob, hbb⟩; have HB := Lib.hid hbb; have HO := Lib.hid hob; clear hbb hob; have hr5 : (y : Int) % (bs.length : Int) ≤ (cap : Int) := by omega)
      | (at_builtin; refine wpList_app _ rfl (.tmp 26) (.tmp 27) rfl wb.heap.size _ _ [] bs wb.heap.size rfl (World.ownsRow_made wb #[] 0 (Nat.le_refl _) (by decide) rfl) rfl (HO.out.alloc (Nat.le_refl _) _) (by simp; omega) (by simp) ?_; intro v1 wc hown1 hg1; have H1 := Lib.hid hown1; have HG1 := Lib.hid (((Below.refl wb.heap.size wb).alloc (Nat.le_refl _) _).grown hg1 (by simp) (fun j ej => by cases ej; exact Nat.le_refl _)); clear hown1 hg1)
      | (at_builtin; refine wpList_app _ rfl (.tmp 28) (.tmp 29) rfl wb.heap.size _ _ bs more w.heap.size rfl H1.out rfl (HM.out.below ((HA.out.trans (HB.out.mono HA.out.size)).trans (HG1.out.mono (Nat.le_trans HA.out.size HB.out.size)))) (by omega) HG1.out.size ?_; intro v2 wd hown2 hg2; have H2 := Lib.hid hown2; have HG2 := Lib.hid (HG1.out.grown hg2 HG1.out.size (fun j ej => (H1.out.lt j ej).1)); clear hown2 hg2)
      | (go_at_call 9; with_reducible refine (take_any (Holds.of_own H2.out) (app_bounds HBD.out HMB.out)).mono ?_; clear H2; rintro e we ⟨rfl, rfl⟩; rw [HT1.out]; dsimp only [tk])
      | (go_at_call 9; with_reducible refine (take_any ((HO.out.below HG2.out).take (y % bs.length) (Nat.le_of_lt hr2)) (take_bounds HBD.out _)).mono ?_; clear H1; rintro e we ⟨rfl, rfl⟩; rw [HT2.out _ hr2]; dsimp only [tk]))
    go_ret
    exact ⟨ret_true (by simp; omega), HA.out.trans ((HB.out.trans (HG2.out.mono HB.out.size)).mono HA.out.size)⟩

/-! ### THE ROW's STEP: WRITTEN OUT: LEAVE IT -/
set_option maxRecDepth 100000 in
theorem lifted (os : Os) (started : os.Started) (H : Type) (enc : TypeId × Value → H) :
    ReturnsInHanded {} Try.checked os 4 .any (Rows.varintBackSpec.pre6 enc Try.prog Try.f4 Rows.varintBackRow.domain false) (Rows.varintBackSpec.post enc Try.prog Try.f4 false true false false) := by
  refine returnsInHanded_of_change (C := Try.checked) own started (by kernel_rfl) Try.func4
    (ChangeSpec.witness6 (enc := enc) (C := Try.checked) false ⟨#[], #[.int .u64 0, .slice none 0 0, .int .u8 0], []⟩ 8 (by kernel_rfl) (by kernel_rfl) (by kernel_rfl) (by kernel_rfl)) ?_
  intro W base args ds gs before hval0 hW hcnd _
  have hval : ∀ (j : Nat) t v, Try.f4.params[j]? = some t → args[j]? = some v → Value.okWide Try.prog W .any base t v := hval0
  have hW' := hW
  obtain ⟨p, q, hA0, hV, rfl, hfz, hnd⟩ := hW
  have hA : DataW.TrodAll enc Try.prog W 0 (fun _ => true) true Try.f4.params.toList args.toList ds p := hA0
  rw [Try.params4] at hA hval
  obtain ⟨v0, vs0, d0, ds0, p0, q0, hargs, rfl, rfl, h0, r0⟩ := trodAll_cons hA
  obtain ⟨v1, vs1, d1, ds1, p1, q1, rfl, rfl, rfl, h1, r1⟩ := trodAll_cons r0
  obtain ⟨v2, vs2, d2, ds2, p2, q2, rfl, rfl, rfl, h2, r2⟩ := trodAll_cons r1
  obtain ⟨rfl, rfl, rfl⟩ := trodAll_nil r2
  obtain rfl : args = #[v0, v1, v2] := by cases args; simp_all
  obtain ⟨rfl, rfl⟩ := trodVars_none hV
  obtain ⟨a0, rfl, rfl, rfl, w0⟩ := open_int Try.underlying22 (hval 0 22 v0 rfl rfl) h0
  obtain ⟨a1, len1, cap1, rfl⟩ := okWide_slice Try.underlying23 (hval 1 23 v1 rfl rfl)
  have k1 := h1
  have lt1 : ∀ x ∈ p1, x.block < W.heap.size := by obtain ⟨m, hm⟩ := k1; exact DataW.trod_lt m _ _ _ hm
  obtain ⟨z1, w1⟩ : ∃ zs, IsRow .u8 W a1 len1 cap1 zs := by
    obtain ⟨fuel, hf⟩ := h1
    rcases open_ints Try.underlying23 Try.underlying5 (by kernel_rfl) hf with ⟨hcs, _⟩ | ⟨x, l, c, zs, hcs, _, hl, hm, hz, _, hcell, hwz⟩
    · simp [Value.cells] at hcs
      obtain ⟨rfl, rfl, rfl⟩ := hcs
      exact ⟨[], .inl ⟨rfl, rfl, rfl, rfl⟩⟩
    · simp [Value.cells] at hcs
      obtain ⟨rfl, rfl, rfl⟩ := hcs
      exact ⟨zs, .inr ⟨_, rfl, hl, hm, by simpa using hz, hcell, hwz⟩⟩
  obtain ⟨a2, rfl, rfl, rfl, w2⟩ := open_int Try.underlying5 (hval 2 5 v2 rfl rfl) h2
  clear hA0 hval0
  refine (walk a0 a1 len1 cap1 z1 a2 W w0 w1 w2).mono fun e W' ⟨he, bel⟩ => ?_
  subst he
  exact ⟨_, rfl, _, _, _, [], _, [], hW', trodAll_mk1 (shut_bool Try.underlying4 _), (trodAll_cons_mk (shut_int Try.underlying22 w0) (trodAll_cons_mk (Below.trod laidOut (by kernel_rfl) (of_decide_eq_true (by kernel_rfl)) k1 bel lt1) (trodAll_cons_mk (shut_int Try.underlying5 w2) trodAll_mk0))), rfl, bel.frame _, fun h => by cases h⟩

theorem over : Rows.varintBackRow.holds Try.pinned (OpenSpec.ofChange Rows.varintBackSpec) :=
  OpenClaim.holds_of_wide 4 Try.f4 rfl rfl rfl rfl rfl rfl rfl ⟨rfl, rfl, rfl, rfl, rfl⟩ rfl rfl rfl rfl rfl (by kernel_rfl) Try.func4 (by kernel_rfl)
    (of_decide_eq_true (by kernel_rfl)) (by unfold Func.isWrapper; first | (rw [if_pos (by decide +kernel)]; kernel_rfl) | (rw [if_neg (by decide +kernel)]; exact ⟨rfl, rfl⟩))
    (fun os started H enc _ => lifted os started H enc)

/-- ████ THE STATEMENT ████ -/
theorem proved : Rows.VarintBackSaid := over
#print axioms proved
end Go.Proofs.Ytminpknmlfmihaa.varintBack
