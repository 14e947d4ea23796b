/-
  'skylight/skylightlaw06.HistShape' returns true for every input, and the input reads afterwards as it read before. Conditions: none.
-/
import Derived.Test.YtimlmaincblkoaaRows
import Derived.WalkKit
import Derived.ProofKit
import Derived.OpenShut
import Derived.ShutString
import Derived.ChangeOld
import Derived.Below
import Derived.Test.YtimlmaincblkoaaOpen
import Derived.Test.YtimlmaincblkoaaHPlayed
import Derived.Test.YtimlmaincblkoaaHAwk
namespace Go.Proofs.Ytimlmaincblkoaa.histShape
open Go.Proofs Go.Proofs.Rn Go.Proofs.Lm Go.Proofs.Op Go.Proofs.Rw Go.Proofs.Lh Go.Proofs.Rf
open Go.ChangeShapes Go.WideShapes Go.ChangeAt Go.RowKit
open Go.ChangeMaps (open_string shut_string)
set_option linter.unusedVariables false

theorem own : ownKnob Try.prog.godebug = none := by kernel_rfl
theorem laidOut : laidOutB Try.prog = true := by kernel_rfl

/-- A slice of integers that came in: nil, or a row of cells of its capacity, each fitting its kind. -/
def IsRow (k : IntKind) (w : World) (a : Option Addr) (len cap : Nat) (zs : List Int) : Prop :=
  (a = none ∧ len = 0 ∧ cap = 0 ∧ zs = []) ∨
  ∃ x, a = some x ∧ len ≤ cap ∧ cap ≤ maxLen ∧ zs.length = cap ∧ (∀ i, i < zs.length → w.cell? (x.add i) = some (.int k (zs.getD i 0))) ∧ ∀ n ∈ zs, (Lit.int k n).wf = true

open Go.RowKit Go.Shelf Go.Proofs.Rw Go.Proofs.Lh Go.Proofs.Rf
open Go.Proofs.Lm (Turn)
theorem shape_at {k : Nat} (hk : 1 ≤ k) : ∀ {ls : Lv} {i : Nat} (j : Nat), Shape k i ls → j < ls.length → 1 ≤ (lev ls j).length ∧ (lev ls j).length ≤ rm k (i + j) ∧ (j + 1 ≠ ls.length → rm k (i + j) - 1 ≤ (lev ls j).length)
  | [], _, _, _, h => absurd h (by simp)
  | [l], i, 0, h, _ => ⟨h.1, h.2, fun e => absurd rfl e⟩
  | [l], i, j + 1, _, hj => absurd hj (by simp)
  | l :: m :: ls, i, 0, h, _ => ⟨by have := rm_two k i hk; have := h.1; show 1 ≤ l.length; omega, h.2.1, fun _ => h.1⟩
  | l :: m :: ls, i, j + 1, h, hj => by
    have := shape_at hk j h.2.2 (by simpa using hj)
    rw [show i + 1 + j = i + (j + 1) by omega] at this
    refine ⟨this.1, this.2.1, fun e => this.2.2 fun e' => e ?_⟩
    simp at e' ⊢
    omega
theorem allOf_drop {L : Lv} {i : Nat} (h : i < L.length) : allOf (L.drop i) = allOf (L.drop (i + 1)) ++ lev L i := by
  rw [drop_lev h]
  rfl
theorem allOf_pre : ∀ (L : Lv) (m : Nat), ∃ suf, allOf L = allOf (L.drop m) ++ suf
  | [], m => ⟨[], by simp [allOf]⟩
  | l :: ls, 0 => ⟨[], by simp⟩
  | l :: ls, m + 1 => by
    obtain ⟨suf, h⟩ := allOf_pre ls m
    exact ⟨suf ++ l, by rw [allOf, h, List.drop_succ_cons, List.append_assoc]⟩
/-- The To of the last one, or 0. -/
def ahead (xs : List Lm.Sp) : Nat := (xs.getLast?.map (·.2)).getD 0
theorem ahead_snoc (xs : List Lm.Sp) (s : Lm.Sp) : ahead (xs ++ [s]) = s.2 := by simp [ahead]
theorem turn_next {xs ys : List Lm.Sp} {s : Lm.Sp} (h : Turn (xs ++ s :: ys)) : ahead xs ≤ s.1 ∧ s.1 ≤ s.2 := by
  obtain ⟨h1, h2, h3⟩ := turn_app.1 h
  refine ⟨?_, h2.1 s (by simp)⟩
  unfold ahead
  cases hl : xs.getLast? with
  | none => simp
  | some x => exact h3 x (List.mem_of_getLast? hl) s (by simp)
theorem turn_drop {L : Lv} (h : Turn (allOf L)) (m : Nat) : Turn (allOf (L.drop m)) := by
  obtain ⟨suf, e⟩ := allOf_pre L m
  rw [e] at h
  exact (turn_app.1 h).1
theorem flat_at {L : Lv} (h : flat L) (x : Lm.Sp) (hx : x ∈ lev L 0) : x.1 = x.2 := by
  cases L with
  | nil => simp [lev] at hx
  | cons l ls => exact h x hx
theorem lev_turn {L : Lv} (h : Turn (allOf L)) {i j : Nat} (hi : i < L.length) (hj : j < (lev L i).length) : ahead (allOf (L.drop (i + 1)) ++ (lev L i).take j) ≤ (lev L i)[j].1 ∧ (lev L i)[j].1 ≤ (lev L i)[j].2 := by
  have h1 := turn_drop h i
  rw [allOf_drop hi] at h1
  refine turn_next (ys := (lev L i).drop (j + 1)) ?_
  rw [List.append_assoc, ← List.drop_eq_getElem_cons hj, List.take_append_drop]
  exact h1

set_option maxRecDepth 100000 in
set_option maxHeartbeats 4000000 in
theorem walk (a0 : Int) (a1 : Option Addr) (len1 cap1 : Nat) (z1 : Nat → Nat → Int) (w : World) (w0 : (Lit.int .i64 a0).wf = true) (w1 : Op.FlatRow [.u64, .u64] w a1 len1 cap1 z1) :
    Calls Try.prog 7 #[.int .i64 a0, .slice a1 len1 cap1] w fun e w' => e = .returned (.bool true) ∧ Below w.heap.size w w' := by
  obtain ⟨ds, hdl1, hdL1, hdB1⟩ := sp_of_row w1
  have hD1 : Deeds w a1 len1 cap1 ds := ⟨hdl1, hdL1, hdB1⟩
  obtain ⟨b00, b01⟩ := bounds_i64 w0
  have hk := kOf_le a0
  have hdn : doneN ds ≤ ds.length := by unfold doneN; omega
  have hmd : Made (kOf a0) (play (kOf a0) ds (doneN ds)).2 := play_made hk.1 (by omega) ds _ hdn
  have hplay := fun (W : World) (hW : Below w.heap.size w W) => played_any a0 b00 (by omega) ds W a1 len1 cap1 (hD1.grow hW)
  have hlk := play_last (kOf a0) hk.1 (by omega) ds (doneN ds) hdn
  have htk := play_tick (kOf a0) ds (doneN ds) hdn
  obtain ⟨kk, hkk⟩ : ∃ x, kOf a0 = x := ⟨_, rfl⟩
  rw [hkk] at hk hmd hlk htk
  simp only [hkk] at hplay
  obtain ⟨TK, hTK⟩ : ∃ x, (play kk ds (doneN ds)).1 = x := ⟨_, rfl⟩
  rw [hTK] at hlk htk
  obtain ⟨L, hL⟩ : ∃ x, (play kk ds (doneN ds)).2 = x := ⟨_, rfl⟩
  rw [hL] at hmd hlk
  simp only [hL] at hplay
  obtain ⟨N, hN⟩ : ∃ x, L.length = x := ⟨_, rfl⟩
  simp only [hN] at hplay
  have hN53 : N ≤ 53 := by have := hmd.len; omega
  have hlev : ∀ i, (lev L i).length ≤ 1026 := hmd.lev
  have htot : tot L ≤ 4503599627370496 := hmd.small
  have HP := Lib.hid hplay
  have HMD := Lib.hid hmd
  have HLEV := Lib.hid hlev
  have HN := Lib.hid hN
  have HDE := Lib.hid hD1
  have HLK := Lib.hid hlk
  have hTKl : TK ≤ 30000 := by have : doneN ds ≤ 30 := by unfold doneN; omega
                               omega
  clear hplay hmd hlev hN hD1 hdl1 hdL1 hdB1 hkk hTK hL w0 w1 hdn hlk htk
  go_enter Try.func7, Try.ntmps7
  go_upto_region 3 with (first
    | (go_at_call 9; refine (awake_any _).mono ?_; rintro e wa ⟨rfl, ha⟩; have HWA := Lib.hid (id ha); clear ha)
    | (go_at_call 10; refine (HP.out _ HWA.out).mono ?_; rintro e w3 ⟨A, c, A2, c2, rfl, hLa, hLb, hb3⟩; have HLA := Lib.hid hLa; have HLB := Lib.hid hLb; have HB3 := Lib.hid (thn HWA.out hb3); clear hLa hLb hb3))
  obtain ⟨W4, hW4, hsz4, p0, p1, hB4⟩ := heap_two w3 (.cells #[.int .i64 (kk : Int), .int .i64 0, .slice A N c] 26) (.cells #[.int .i64 (kk : Int), .int .i64 0, .slice A2 N c2] 27)
  rw [← hW4]
  have HLA4 := Lib.hid (HLA.out.grow hB4)
  have HLB4 := Lib.hid (HLB.out.grow hB4)
  have HB4 := Lib.hid (thn HB3.out hB4)
  have P0 := Lib.hid p0
  have P1 := Lib.hid p1
  obtain ⟨q0, q1, q2⟩ := box3 p0
  obtain ⟨r0, r1, r2⟩ := box3 p1
  have l0 := lt_of p0
  have l1 := lt_of p1
  clear hW4 hB4 p0 p1 HLA HLB HB3 HP
  have hshape := HMD.out.ok.shape
  have hturn := HMD.out.ok.turn
  have hflat := HMD.out.ok.flat
  have HSH := Lib.hid hshape
  have HTU := Lib.hid hturn
  have HFL := Lib.hid hflat
  clear hshape hturn hflat r0 r1 r2 l1 HLB4 HLK htot HMD
  have bN : (N : Int) - 1 ≤ 9223372036854775807 := by omega
  go_wp2
  go_loopw [9, 10] (fun s9 s10 wr => ∃ (m : Nat) (z : Int), s10 = .int .i64 z ∧ z + 1 = (m : Int) ∧ m ≤ N ∧ s9 = .int .u64 (ahead (allOf (L.drop m)) : Int) ∧ Below W4.heap.size W4 wr) (fun _ s10 _ => (intOf s10 + 1).toNat)
  case atStart =>
    refine ⟨N, _, rfl, by omega, Nat.le_refl _, ?_, Below.refl _ _⟩
    rw [← HN.out, List.drop_length]
    rfl
  case round =>
    obtain ⟨m, z, rfl, hz, hmN, rfl, hbel⟩ := hrel
    rcases m with _ | i
    · have e : z = -1 := by omega
      subst e
      clear hz
      go_wp2
      go_ret
      exact ⟨rfl, thn HB4.out hbel⟩
    · have e : z = (i : Int) := by omega
      subst e
      have t0 := (hbel.block _ l0).trans P0.out
      obtain ⟨x0, x1, x2⟩ := box3 t0
      have lx := lt_of t0
      have hLr := HLA4.out.grow hbel
      have hiL : i < L.length := by rw [HN.out]; omega
      obtain ⟨b, off, rfl, hb, -, hc⟩ := hLr.at (by omega)
      obtain ⟨Ai, ci, y0, -, -, hLi⟩ := hc i hiL
      rw [← lev_lt hiL] at y0 hLi
      obtain ⟨hs1, hs2, hs3⟩ := shape_at (by omega) i HSH.out hiL
      rw [Nat.zero_add] at hs2 hs3
      have hln := HLEV.out i
      obtain ⟨l, hl⟩ : ∃ l, lev L i = l := ⟨_, rfl⟩
      obtain ⟨n, hn⟩ : ∃ n, l.length = n := ⟨_, rfl⟩
      have hturn : ∀ j (hj : j < l.length), ahead (allOf (L.drop (i + 1)) ++ l.take j) ≤ l[j].1 ∧ l[j].1 ≤ l[j].2 := by
        intro j hj
        subst hl
        exact lev_turn HTU.out hiL hj
      have hflt : i = 0 → ∀ x ∈ l, x.1 = x.2 := fun e x hx => by
        subst e
        rw [← hl] at hx
        exact flat_at HFL.out x hx
      have hnx : allOf (L.drop i) = allOf (L.drop (i + 1)) ++ l := by rw [allOf_drop hiL, hl]
      rw [hl, hn] at y0 hs1 hs2 hs3 hln
      rw [hl, hn] at hLi
      obtain ⟨V, hV⟩ : ∃ V, allOf (L.drop (i + 1)) = V := ⟨_, rfl⟩
      rw [hV] at hturn hnx
      have hMo := fun W => rMost_any (kk : Int) (i : Int) (by omega) W
      have hLe := fun W => rLeast_any (kk : Int) (i : Int) (by omega) W
      have hrm : leastI (kk : Int) (i : Int) + 1 = (rm kk i : Int) := by
        unfold leastI rm
        by_cases h : i = 0
        · subst h; simp
          try omega
        · rw [if_neg (by omega), if_neg h]; omega
      obtain ⟨M, hM⟩ : ∃ M, leastI (kk : Int) (i : Int) = M := ⟨_, rfl⟩
      simp only [hM] at hMo hLe
      rw [hM] at hrm
      have g1 : ¬ ((n : Int) < 1) := by omega
      have g2 : decide (M + 1 < (n : Int)) = false := by simp; omega
      have hs3' : (i : Int) ≠ (N : Int) - 1 → decide ((n : Int) < M) = false := fun h => by
        have := hs3 (by rw [HN.out]; omega)
        simp
        omega
      have HMO := Lib.hid hMo
      have HLE := Lib.hid hLe
      have HTN := Lib.hid hturn
      have HFT := Lib.hid hflt
      have HNX := Lib.hid hnx
      have HS3 := Lib.hid hs3'
      have HLI := Lib.hid hLi
      have HNN := Lib.hid hn
      have HBEL := Lib.hid hbel
      have T0 := Lib.hid t0
      have hiN : (i : Int) < (N : Int) := by omega
      rw [hV]
      have hbs : b < wr.heap.size := hb
      have bN1 : -9223372036854775808 ≤ (N : Int) - 1 := by omega
      clear hMo hLe hturn hflt hnx hs3' hLi hn hbel t0 hc hLr hl hs1 hs2 hs3 hV hM hrm hz hiL
      go_upto_region 9 with (fail)
      generalize htp : ((i : Int) == (N : Int) - 1) = tp
      have hs4 : tp = false → decide ((n : Int) < M) = false := fun e => HS3.out (by rw [e] at htp; rw [beq_eq_false_iff_ne] at htp; exact htp)
      have HS4 := Lib.hid hs4
      clear hs4 htp
      go_cut [64] from 43 to 64 (fun s64 wx => s64 = .bool false ∧ wr = wx)
      case first =>
        cases tp
        case true =>
          go_wp2_with (go_at_call 21; (with_reducible refine (HMO.out _).mono ?_); rintro e wn ⟨rfl, rfl⟩)
          go_meet
          case rel => exact ⟨rfl, rfl⟩
        case false =>
          have d3 := HS4.out rfl
          go_wp2_with (first
            | (go_at_call 21; (with_reducible refine (HMO.out _).mono ?_); rintro e wn ⟨rfl, rfl⟩)
            | (go_at_call 22; (with_reducible refine (HLE.out _).mono ?_); rintro e wn ⟨rfl, rfl⟩))
          go_meet
          case rel => exact ⟨by first | rfl | exact congrArg Value.bool d3, rfl⟩
      case rest =>
        obtain ⟨rfl, rfl⟩ := hcut
        clear g1 g2 HS3 HS4 HMO HLE
        rename World => wo
        go_wp2
        go_loopw [9, 13] (fun s9 s13 wr => ∃ j : Nat, s13 = .int .i64 (j : Int) ∧ j ≤ n ∧ s9 = .int .u64 (ahead (V ++ l.take j) : Int) ∧ Below wo.heap.size wo wr) (fun _ s13 _ => n - (intOf s13).toNat)
        case atStart => exact ⟨0, rfl, Nat.zero_le _, by simp, Below.refl _ _⟩
        case round =>
          obtain ⟨j, rfl, hj, rfl, hbel⟩ := hrel
          have HBE := Lib.hid hbel
          by_cases hlt : j < n
          · have hjl : j < l.length := by rw [HNN.out]; exact hlt
            have t0 := (hbel.block _ lx).trans T0.out
            obtain ⟨f0, f1, f2⟩ := box3 t0
            have lf := lt_of t0
            have yc := (hbel.cell (p := ⟨b, off + i, none⟩) hbs).trans y0
            have lb := Nat.lt_of_lt_of_le hbs hbel.size
            have hLi2 := HLI.out.grow hbel
            obtain ⟨b2, off2, rfl, hb2, -, hc2⟩ := sp_at hLi2 (by omega)
            obtain ⟨d0, d1⟩ := hc2 j hjl
            obtain ⟨t1, t2⟩ := HTN.out j hjl
            have hmem : l[j] ∈ l := List.getElem_mem _
            have hfl : i = 0 → l[j].1 = l[j].2 := fun e => HFT.out e _ hmem
            have htk : l.take (j + 1) = l.take j ++ [l[j]] := List.take_succ_eq_append_getElem hjl
            obtain ⟨x, hx⟩ : ∃ x, l[j] = x := ⟨_, rfl⟩
            rw [hx] at d0 d1 t1 t2 hfl htk
            obtain ⟨ah, hah⟩ : ∃ a, ahead (V ++ l.take j) = a := ⟨_, rfl⟩
            rw [hah] at t1 ⊢
            have hah2 : ahead (V ++ l.take (j + 1)) = x.2 := by rw [htk, ← List.append_assoc, ahead_snoc]
            have HAH := Lib.hid hah2
            have HFL2 := Lib.hid hfl
            have e1 : decide (x.1 < ah) = false := by simp; omega
            have e2 : decide (x.2 < x.1) = false := by simp; omega
            have hjn : (j : Int) < (n : Int) := by omega
            clear hfl htk hah hah2 hx hmem hc2 hLi2 t0 hbel t1 t2 hjl
            by_cases hi0 : i = 0
            · have ex := HFL2.out hi0
              have e3 : ((x.1 : Int) != (x.2 : Int)) = false := by rw [ex]; simp
              have e4 : ((i : Int) == 0) = true := by simp [hi0]
              clear ex hi0
              go_wp2
              refine ⟨⟨j + 1, by go_num, hlt, by rw [HAH.out], HBE.out.alloc HBE.out.size _⟩, by simp [intOf]; omega⟩
            · have e3 : ((i : Int) == 0) = false := by rw [beq_eq_false_iff_ne]; omega
              go_wp2
              refine ⟨⟨j + 1, by go_num, hlt, by rw [HAH.out], HBE.out.alloc HBE.out.size _⟩, by simp [intOf]; omega⟩
          · have e : j = n := by omega
            subst e
            have ev : V ++ l.take j = V ++ l := by rw [List.take_of_length_le (by rw [HNN.out]; omega)]
            rw [ev]
            have HEV := Lib.hid HNX.out
            clear ev hbel
            go_wp2
            refine ⟨⟨i, _, rfl, by omega, by omega, by rw [HNX.out], thn HBEL.out HBE.out⟩, by simp [intOf]⟩

set_option maxRecDepth 100000 in
theorem lifted (os : Os) (started : os.Started) (H : Type) (enc : TypeId × Value → H) :
    ReturnsInHanded {} Try.checked os 7 .any (Rows.histShapeSpec.pre6 enc Try.prog Try.f7 Rows.histShapeRow.domain false) (Rows.histShapeSpec.post enc Try.prog Try.f7 false true false false) := by
  refine returnsInHanded_of_change (C := Try.checked) own started (by kernel_rfl) Try.func7
    (ChangeSpec.witness6 (enc := enc) (C := Try.checked) false ⟨#[], #[.int .i64 0, .slice none 0 0], []⟩ 8 (by kernel_rfl) (by kernel_rfl) (by kernel_rfl) (by kernel_rfl)) ?_
  intro W base args ds gs before hval0 hW hcnd _
  have hval : ∀ (j : Nat) t v, Try.f7.params[j]? = some t → args[j]? = some v → Value.okWide Try.prog W .any base t v := hval0
  have hW' := hW
  obtain ⟨p, q, hA0, hV, rfl, hfz, hnd⟩ := hW
  have hA : DataW.TrodAll enc Try.prog W 0 (fun _ => true) true Try.f7.params.toList args.toList ds p := hA0
  rw [Try.params7] at hA hval
  obtain ⟨v0, vs0, d0, ds0, p0, q0, hargs, rfl, rfl, h0, r0⟩ := trodAll_cons hA
  obtain ⟨v1, vs1, d1, ds1, p1, q1, rfl, rfl, rfl, h1, r1⟩ := trodAll_cons r0
  obtain ⟨rfl, rfl, rfl⟩ := trodAll_nil r1
  obtain rfl : args = #[v0, v1] := by cases args; simp_all
  obtain ⟨rfl, rfl⟩ := trodVars_none hV
  obtain ⟨a0, rfl, rfl, rfl, w0⟩ := open_int Try.underlying3 (hval 0 3 v0 rfl rfl) h0
  obtain ⟨a1, len1, cap1, rfl⟩ := okWide_slice Try.underlying22 (hval 1 22 v1 rfl rfl)
  have k1 := h1
  have lt1 : ∀ x ∈ p1, x.block < W.heap.size := by obtain ⟨m, hm⟩ := k1; exact DataW.trod_lt m _ _ _ hm
  obtain ⟨z1, w1⟩ := Op.open_flats (f := 9) (ks := [.u64, .u64]) Try.underlying22 (by kernel_rfl) (by kernel_rfl) (by decide) h1
  clear hA0 hval0
  refine (walk a0 a1 len1 cap1 z1 W w0 w1).mono fun e W' ⟨he, bel⟩ => ?_
  subst he
  exact ⟨_, rfl, _, _, _, [], _, [], hW', trodAll_mk1 (shut_bool Try.underlying4 _), (trodAll_cons_mk (shut_int Try.underlying3 w0) (trodAll_cons_mk (Below.trod laidOut (by kernel_rfl) (of_decide_eq_true (by kernel_rfl)) k1 bel lt1) trodAll_mk0)), rfl, bel.frame _, fun h => by cases h⟩

theorem over : Rows.histShapeRow.holds Try.pinned (OpenSpec.ofChange Rows.histShapeSpec) :=
  OpenClaim.holds_of_wide 7 Try.f7 rfl rfl rfl rfl rfl rfl rfl ⟨rfl, rfl, rfl, rfl, rfl⟩ rfl rfl rfl rfl rfl (by kernel_rfl) Try.func7 (by kernel_rfl)
    (of_decide_eq_true (by kernel_rfl)) (by unfold Func.isWrapper; first | (rw [if_pos (by decide +kernel)]; kernel_rfl) | (rw [if_neg (by decide +kernel)]; exact ⟨rfl, rfl⟩))
    (fun os started H enc _ => lifted os started H enc)

/-- The statement. -/
theorem proved : Rows.HistShapeSaid := over
#print axioms proved
end Go.Proofs.Ytimlmaincblkoaa.histShape
