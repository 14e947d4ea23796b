/- The contract of skylightref06.Unit. -/
import Derived.Deep.CutRange
import Derived.Test.YtimlmaincblkoaaLUnit
import Derived.Test.YtimlmaincblkoaaHReg
namespace Go.Proofs.Lh
open Go.Proofs.Lm (Sp)
/-- At round i these come to the level i, one at most. -/
structure AtU (k : Nat) (ls R : Lv) (i : Nat) (come : List Sp) : Prop where
  rest : R.drop i = addL k i (ls.drop i) come
  few : come.length ≤ 1
theorem AtU.next {k : Nat} {ls R : Lv} {i : Nat} {come : List Sp} (h : AtU k ls R i come) (hl : (lev ls i).length ≤ rm k i) (hgo : come ≠ [] ∨ i < ls.length) :
    i < R.length ∧ lev R i = stayL (lev ls i ++ come) (rm k i) ∧ AtU k ls R (i + 1) (wentL (lev ls i ++ come) (rm k i)) := by
  have e := h.rest
  rw [addL_step k i ls _ hgo] at e
  have hi : i < R.length := by
    rcases Nat.lt_or_ge i R.length with hi | hi
    · exact hi
    · rw [List.drop_of_length_le hi] at e
      cases e
  rw [drop_lev hi] at e
  injection e with e1 e2
  refine ⟨hi, e1, ⟨e2, ?_⟩⟩
  rw [wentL_len _ _ (rm_pos k i), List.length_append]
  have := h.few
  unfold prs
  omega
theorem AtU.over {k : Nat} {ls R : Lv} {i : Nat} {come : List Sp} (h : AtU k ls R i come) (hi : ls.length ≤ i) (hz : come = []) : R.length ≤ i := by
  have e := h.rest
  rw [hz, List.drop_of_length_le hi, addL, newL_nil] at e
  have := congrArg List.length e
  simp at this
  omega
end Go.Proofs.Lh
namespace Go.Proofs.Ytimlmaincblkoaa
open Go.RowKit Go.Shelf Go.Proofs.Rw Go.Proofs.Lh Go.Proofs.Rf

theorem levs_at2 {w : World} {B : Nat} {ls : Lv} {A : Option Addr} {len cap : Nat} (h : Levs w B (.slice A len cap) ls) (i : Nat) (hi : i < ls.length) {Ai : Option Addr} {ci b off : Nat} (hA : A = some ⟨b, off, none⟩) (hc : w.cell? ⟨b, off + i, none⟩ = some (.slice Ai ls[i].length ci)) (hn : ls[i] ≠ []) : Held w 54 (.slice Ai ls[i].length ci) := by
  obtain ⟨_, vs, h1, h2, _, h3⟩ := h
  obtain ⟨b', off', hA', _, _, hcc⟩ := h1.addr (by omega)
  rw [hA] at hA'
  injection hA' with hA'
  injection hA' with e1 e2 _
  subst e1 e2
  have hiv : i < vs.length := by omega
  have hv := hcc i hiv 0 vs[i] rfl
  rw [show i * valL.size + 0 = i by show i * 1 + 0 = i; omega, hc] at hv
  injection hv with hv
  rw [hv]
  exact (h3 i vs[i] ls[i] (List.getElem?_eq_getElem hiv) (List.getElem?_eq_getElem hi)).2 hn

set_option maxHeartbeats 1000000 in
theorem rat_any2 (k g : Int) (ls : Lv) (i : Nat) (w : World) (B : Nat) (hB : B ≤ w.heap.size) (A : Option Addr) (c : Nat) (h : Levs w B (.slice A ls.length c) ls) :
    Calls Try.prog 33 #[hv k g (.slice A ls.length c), .int .i64 (i : Int)] w fun e w' => ∃ A' c', e = .returned (.slice A' (lev ls i).length c') ∧ Lies spL w B (.slice A' (lev ls i).length c') (lev ls i) ∧ (lev ls i ≠ [] → Held w 54 (.slice A' (lev ls i).length c')) ∧ Below w.heap.size w w' := by
  rcases Nat.lt_or_ge i ls.length with hi | hi
  · have h0 := h
    obtain ⟨b, off, rfl, hb, _, hc⟩ := h.at (by omega)
    obtain ⟨Ai, ci, hcell, _, _, hL⟩ := hc i hi
    have hh := levs_at2 h0 i hi rfl hcell
    rw [lev_lt hi]
    have hbs : b < w.heap.size := by omega
    have HL := Lib.hid hL
    have HH := Lib.hid hh
    generalize ls[i] = l at *
    clear h hc hL h0 hh
    go_enter Try.func33, Try.ntmps33
    go_wp2
    go_ret
    exact ⟨_, _, rfl, HL.out, HH.out, (Below.refl _ w).alloc (Nat.le_refl _) _⟩
  · rw [lev_ge hi]
    clear h
    go_enter Try.func33, Try.ntmps33
    go_wp2
    go_ret
    exact ⟨none, 0, rfl, Lies.nil _ _ (by unfold maxLen; omega), fun h => absurd rfl h, (Below.refl _ w).alloc (Nat.le_refl _) _⟩

set_option maxRecDepth 100000 in
set_option maxHeartbeats 4000000 in
theorem runit_any (k : Nat) (ls R : Lv) (hmd : Made k ls) (hk9 : k ≤ 900) (t : Nat) (hR : R = addL k 0 ls [(t, t)]) (hRl : R.length ≤ 1000) (w : World) (A : Option Addr) (c : Nat) (h : Levs w w.heap.size (.slice A ls.length c) ls) :
    Calls Try.prog 20 #[hv k 0 (.slice A ls.length c), .int .u64 t] w fun e w' => ∃ A' c', e = .returned (hv k 0 (.slice A' R.length c')) ∧ Levs w' w'.heap.size (.slice A' R.length c') R ∧ Below w.heap.size w w' := by
  obtain ⟨N, hN⟩ : ∃ N, ls.length = N := ⟨_, rfl⟩
  obtain ⟨W0, hW0, hsz, p0, p1, hB0⟩ := heap_two w (.cells #[.int .i64 k, .int .i64 0, .slice A N c] 27) (.cells #[.int .i64 0, .int .i64 0, .slice none 0 0] 27)
  have hat0 : AtU k ls R 0 [(t, t)] := ⟨by rw [hR]; simp, by simp⟩
  obtain ⟨wL, hwL, hLsz, yO, yC, hBL⟩ := heap_two W0 (.cells #[.int .i64 k, .int .i64 0, .slice none 0 0] 27) (.cells #[.int .u64 t, .int .u64 t] 54)
  have hlit := lit1 (W0.alloc (.cells #[.int .i64 k, .int .i64 0, .slice none 0 0] 27)) (W0.heap.size + 1) (by simp) t t
  rw [← hwL] at hlit
  obtain ⟨bO, hbO⟩ : ∃ b, W0.heap.size = b := ⟨_, rfl⟩
  rw [hbO] at hlit yO yC hBL hLsz
  have hlO : w.heap.size + 2 = bO := by omega
  have HA0 := Lib.hid hat0
  have HL := Lib.hid h
  have HMD := Lib.hid hmd
  have HW0 := Lib.hid hW0
  have HWL := Lib.hid hwL
  have HLIT := Lib.hid (hlit.mono (show bO + 1 + 1 ≤ wL.heap.size by omega))
  have P0 := Lib.hid p0
  have P1 := Lib.hid p1
  have YO := Lib.hid yO
  have HBL := Lib.hid hBL
  have HB0 := Lib.hid hB0
  have HBO := Lib.hid hbO
  have HN := Lib.hid hN
  rw [hN]
  obtain ⟨q0, q1, q2⟩ := box3 p0
  have l0 : w.heap.size < W0.heap.size := by omega
  clear h hmd hat0 hN hW0 hsz p0 p1 hB0 hR hwL hLsz yO yC hBL hlit hbO
  go_enter Try.func20, Try.ntmps20
  go_upto_region 1 with (fail)
  rw [← HW0.out]
  go_wp2
  rw [← HWL.out, HBO.out]
  clear HW0 HWL q0 q1 q2 l0
  go_loopw [6, 7] (fun s6 s7 wr => ∃ (j : Nat) (come : List Sp) (A2 : Option Addr) (n2 c2 : Nat) (v : Value), s6 = .slice A2 n2 c2 ∧ s7 = .int .i64 (j : Int) ∧ come.length = n2 ∧ j ≤ R.length ∧ AtU k ls R j come ∧ Lies spL wr wr.heap.size (.slice A2 n2 c2) come ∧ (come ≠ [] → ∀ b, (Value.slice A2 n2 c2).ownBlock = some b → b ≠ bO ∧ v.ownBlock ≠ some b) ∧ wr.heap[bO]? = some (.cells #[.int .i64 (k : Int), .int .i64 0, v] 27) ∧ OwnL (fun b => b < w.heap.size ∨ bO < b) wr (bO + 1) v (R.take j) ∧ Below bO W0 wr) (fun _ s7 _ => R.length - (intOf s7).toNat)
  case atStart =>
    refine ⟨0, [(t, t)], _, 1, 1, _, rfl, rfl, rfl, Nat.zero_le _, HA0.out, HLIT.out, fun _ b hb => ⟨?_, ?_⟩, YO.out, OwnLevs.nil _ _ _ _, HBL.out⟩
    · injection hb with hb
      have : bO + 1 = b := hb
      omega
    · intro e
      cases e
  case round =>
    obtain ⟨j, come, A2, n2, c2, v, rfl, rfl, hn2, hjR, hAt, hcome, hcb, hox, how, hbel⟩ := hrel
    have hbw : Below w.heap.size w wr := HB0.out.trans (hbel.mono (by omega))
    have hLr : Levs wr w.heap.size (.slice A N c) ls := by rw [← HN.out]; exact HL.out.below hbw
    have pH := (hbel.block w.heap.size (by omega)).trans P0.out
    obtain ⟨x0, x1, x2⟩ := box3 pH
    have hlh := lt_of pH
    have hlo := lt_of hox
    have hws : w.heap.size ≤ wr.heap.size := by omega
    have hfew := hAt.few
    have hlj0 := few_lev j HMD.out.few
    rw [Nat.zero_add] at hlj0
    have hrk := rm_le k j
    obtain ⟨l, hl⟩ : ∃ l, lev ls j = l := ⟨_, rfl⟩
    rw [hl] at hlj0
    obtain ⟨m, hm⟩ : ∃ m, l.length = m := ⟨_, rfl⟩
    obtain ⟨M, hM⟩ : ∃ M, rm k j = M := ⟨_, rfl⟩
    rw [hM, hm] at hlj0
    rw [hM] at hrk
    have hM1 : 1 ≤ M := by rw [← hM]; exact rm_pos k j
    have hat := rat_any2 k 0 ls j wr w.heap.size hws A c (by rw [HN.out]; exact hLr)
    rw [hl, hm, HN.out] at hat
    have hmo : ∀ W2, Calls Try.prog 21 #[.int .i64 (k : Int), .int .i64 (j : Int)] W2 fun e w' => e = .returned (.int .i64 (M : Int)) ∧ W2 = w' := by
      intro W2
      have hrm : leastI (k : Int) (j : Int) + 1 = (M : Int) := by
        rw [← hM]
        unfold leastI rm
        by_cases h : j = 0
        · subst h; simp
          try omega
        · rw [if_neg (by omega), if_neg h]; omega
      rw [← hrm]
      exact rMost_any k j (by omega) W2
    obtain ⟨st, hst⟩ : ∃ st, stayL (l ++ come) M = st := ⟨_, rfl⟩
    obtain ⟨we, hwe⟩ : ∃ we, wentL (l ++ come) M = we := ⟨_, rfl⟩
    obtain ⟨ns, hns⟩ : ∃ n, st.length = n := ⟨_, rfl⟩
    obtain ⟨nw, hnw⟩ : ∃ n, we.length = n := ⟨_, rfl⟩
    have hnone : n2 = 0 → st = l ∧ we = [] := fun e => by
      have hc0 : come = [] := List.eq_nil_of_length_eq_zero (by omega)
      rw [← hst, ← hwe, hc0, List.append_nil, stayL_few (by omega), wentL_few (by omega)]
      exact ⟨rfl, rfl⟩
    have hnext : come ≠ [] ∨ j < ls.length → j < R.length ∧ st = lev R j ∧ AtU k ls R (j + 1) we := by
      intro hgo
      obtain ⟨a1, a2, a3⟩ := hAt.next (by rw [hl, hM, hm]; exact hlj0) hgo
      rw [hl, hM, hst] at a2
      rw [hl, hM, hwe] at a3
      exact ⟨a1, a2.symm, a3⟩
    have hdone : ls.length ≤ j → come = [] → R.length ≤ j := fun h1 hz => hAt.over h1 hz
    have hvo : v.ownBlock ≠ some bO := fun e => by have := (how.lt bO e).1; omega
    have HAT := Lib.hid hat
    have HM := Lib.hid hmo
    have HNX := Lib.hid hnext
    have HDN := Lib.hid hdone
    have HN2 := Lib.hid hn2
    have HNW := Lib.hid hnw
    have HNS := Lib.hid hns
    have HVO := Lib.hid hvo
    have HOX := Lib.hid hox
    have HOW := Lib.hid how
    have HBEL := Lib.hid hbel
    have HLO := Lib.hid hlo
    have HLR := Lib.hid hlh
    have HCO := Lib.hid hcome
    have HCB := Lib.hid hcb
    have HST := Lib.hid hst
    have HWE := Lib.hid hwe
    have HMM := Lib.hid hm
    have HLJ := Lib.hid hlj0
    have HNO := Lib.hid hnone
    have PH := Lib.hid pH
    clear hat hmo hnext hdone hAt pH hLr hst hwe hM hl hm hlj0 hns hnw hvo how hbel hcome hcb HA0 YO HBL HLIT hox hnone
    by_cases hgo : 0 < n2 ∨ j < N
    · obtain ⟨hRJ, hST, hAN⟩ := HNX.out (by
        rcases hgo with h1 | h1
        · exact .inl fun e => by have := HN2.out; rw [e] at this; simp at this; omega
        · exact .inr (by rw [HN.out]; exact h1))
      have HRJ := Lib.hid hRJ
      have HTK := Lib.hid (take_one hRJ hST)
      have HAN := Lib.hid hAN
      have hjj : j < 1000 := by omega
      have hn21 : n2 ≤ 1 := by omega
      clear hRJ hST hAN HNX HDN
      go_upto_region 4 with (fail)
      go_cut [29] from 20 to 57 (fun s29 wx => s29 = .bool true ∧ wr = wx)
      case first =>
        by_cases h1 : 0 < n2
        · have g1 : decide (0 < n2) = true := by simpa using h1
          clear hgo
          go_wp2
          go_meet
          case rel => exact ⟨rfl, rfl⟩
        · have g1 : decide (0 < n2) = false := by simpa using h1
          have h3 : j < N := by omega
          have g3 : decide (j < N) = true := by simpa using h3
          clear hgo
          go_wp2
          go_meet
          case rel => exact ⟨by first | rfl | exact congrArg Value.bool g3, rfl⟩
      case rest =>
        obtain ⟨rfl, rfl⟩ := hcut
        clear hgo
        go_upto_if 37 with (go_at_call 33; refine HAT.out.mono ?_; rintro e w5 ⟨As, cs, rfl, hLs, hHs, hb5⟩; have HLS := Lib.hid hLs; have HHS := Lib.hid hHs; have HBW := Lib.hid hb5; clear hLs hHs hb5)
        have hv5 : ∀ b, wr.heap.size ≤ b → v.ownBlock ≠ some b := fun b hb e => by have := (HOW.out.lt b e).2; omega
        have HV5 := Lib.hid hv5
        clear hv5 x0 x1 x2
        go_cut [6, 8, 9, 10] from 30 to 51 (fun s6 s8 _ _ wx => ∃ (A4 : Option Addr) (nw' c4 : Nat) (A3 : Option Addr) (ns' c3 : Nat), s6 = .slice A4 nw' c4 ∧ s8 = .slice A3 ns' c3 ∧ we.length = nw' ∧ st.length = ns' ∧ Lies spL wx wx.heap.size (.slice A4 nw' c4) we ∧ Lies spL wx wx.heap.size (.slice A3 ns' c3) st ∧ (we ≠ [] → ∀ b, (Value.slice A4 nw' c4).ownBlock = some b → wr.heap.size ≤ b ∧ Ty wx 54 b) ∧ (st ≠ [] → ∀ b, (Value.slice A3 ns' c3).ownBlock = some b → (b < w.heap.size ∨ bO < b) ∧ v.ownBlock ≠ some b ∧ Ty wx 54 b) ∧ Below wr.heap.size wr wx)
        case first =>
          by_cases h1 : 0 < n2
          · have e1 : n2 = 1 := by omega
            subst e1
            obtain ⟨x, hx⟩ : ∃ x, come = [x] := by
              have := HN2.out
              match come, this with
              | [x], _ => exact ⟨x, rfl⟩
            have hc5 := HCO.out.grow HBW.out
            rw [hx] at hc5
            obtain ⟨bc, oc, rfl, hbc, -, hcc⟩ := sp_at hc5 (by simp)
            obtain ⟨z0, z1⟩ := hcc 0 (by simp)
            have z0' : w5.cell? ⟨bc, oc, none⟩ = some (.int .u64 (x.1 : Int)) := z0
            have z1' : w5.cell? ⟨bc, oc + 1, none⟩ = some (.int .u64 (x.2 : Int)) := z1
            have t0 := (HBW.out.block _ HLR.out).trans PH.out
            obtain ⟨y0, -, -⟩ := box3 t0
            have hone := one_push l M x (by have := HMM.out; have := HLJ.out; omega) hM1
            rw [← hx, HST.out, HWE.out] at hone
            have hon : ∀ W2, Grows w5 W2 → Calls Try.prog 35 #[.slice As m cs, .int .i64 (M : Int), .agg #[.int .u64 (x.1 : Int), .int .u64 (x.2 : Int)]] W2 fun e w' => ∃ (A3 : Option Addr) (c3 : Nat) (A4 : Option Addr) (c4 : Nat), e = .returned (.tuple #[.slice A3 ns c3, .slice A4 nw c4]) ∧ Lies spL w' w'.heap.size (.slice A3 ns c3) st ∧ Lies spL w' w'.heap.size (.slice A4 nw c4) we ∧ Below W2.heap.size W2 w' ∧ ∀ b, (Value.slice A3 ns c3).ownBlock = some b ∨ (Value.slice A4 nw c4).ownBlock = some b → W2.heap.size ≤ b ∧ Ty w' 54 b := by
              intro W2 hG
              have hg : Below w5.heap.size w5 W2 := hG
              have hLl := ((HLS.out.mono hws).grow HBW.out).grow hg
              have := one_any2 l M x hM1 (by have := HMM.out; have := HLJ.out; omega) (by omega) W2 As cs (by rw [HMM.out]; exact hLl)
              rw [hone, HMM.out] at this
              refine this.mono ?_
              rintro e w' ⟨v1, v2, he, l1, l2, hb, -, hnew⟩
              obtain ⟨A3, c3, rfl, -, -, l1'⟩ := l1.form
              obtain ⟨A4, c4, rfl, -, -, l2'⟩ := l2.form
              rw [HNS.out] at l1' he hnew
              rw [HNW.out] at l2' he hnew
              exact ⟨A3, c3, A4, c4, he, l1', l2', hb, hnew⟩
            have HON := Lib.hid hon
            have H0 := Lib.hid y0
            have HLH := Lib.hid (lt_of t0)
            have HC0 := Lib.hid z0'
            have HC1 := Lib.hid z1'
            have HLC := Lib.hid hbc
            have HZ5 := Lib.hid HBW.out.size
            clear hon y0 t0 z0 z1 z0' z1' hcc hc5 hx hone h1
            go_upto_region 8 with (fail)
            refine region_facts0 (fr := ?frA) 9 [39, 40, 41, 42, 43, 44, 45, 46, 47] (fun i v W => match i with
                | 0 => v = .slice As m cs
                | 1 => v = .pointer (some ⟨w.heap.size, 0, none⟩)
                | 2 => v = .int .i64 (k : Int)
                | 3 => v = .int .i64 (j : Int)
                | 4 => v = .int .i64 (M : Int)
                | 5 => v = .slice (some ⟨bc, oc, none⟩) 1 c2
                | 6 => v = .pointer (some ⟨bc, oc, none⟩)
                | 7 => v = .agg #[.int .u64 (x.1 : Int), .int .u64 (x.2 : Int)]
                | 8 => ∃ (A3 : Option Addr) (c3 : Nat) (A4 : Option Addr) (c4 : Nat), v = .tuple #[.slice A3 ns c3, .slice A4 nw c4] ∧ Lies spL W W.heap.size (.slice A3 ns c3) st ∧ Lies spL W W.heap.size (.slice A4 nw c4) we ∧ ∀ b, (Value.slice A3 ns c3).ownBlock = some b ∨ (Value.slice A4 nw c4).ownBlock = some b → w5.heap.size ≤ b ∧ Ty W 54 b
                | _ => True) rfl ?hBA (by kernel_rfl) (by kernel_rfl) (by kernel_rfl) ?hfrA ?hFA ?hopA ?htailA
            case hBA => kernel_rfl
            case hfrA =>
              intro us
              simp only [putL]
              go_simp
              rfl
            case hFA =>
              intro i v W W' hG h
              match i with
              | 0 => exact h
              | 1 => exact h
              | 2 => exact h
              | 3 => exact h
              | 4 => exact h
              | 5 => exact h
              | 6 => exact h
              | 7 => exact h
              | 8 => obtain ⟨A3, c3, A4, c4, h1, h2, h3, h4⟩ := h; exact ⟨A3, c3, A4, c4, h1, h2.grow hG, h3.grow hG, fun b hb => ⟨(h4 b hb).1, (h4 b hb).2.keep (Below.block hG b (h4 b hb).2.lt)⟩⟩
              | n + 9 => trivial
            case hopA =>
              intro i hi us W2 hG hd
              match i, hi with
              | 0, _ =>
                clear hd
                exact hop_value rfl rfl rfl (v := .slice As m cs) (W' := W2) (by go_simp) (Grows.refl _) rfl
              | 1, _ =>
                clear hd
                exact hop_value rfl rfl rfl (v := .pointer (some ⟨w.heap.size, 0, none⟩)) (W' := W2) (by go_simp) (Grows.refl _) rfl
              | 2, _ =>
                have h1 : us 1 = .pointer (some ⟨w.heap.size, 0, none⟩) := hd 1 (by omega) (by kernel_rfl)
                clear hd
                have q0 := (hG.cell (b := w.heap.size) (o := 0) HLH.out).trans H0.out
                have q0l := Nat.lt_of_lt_of_le HLH.out hG.size
                exact hop_value rfl rfl rfl (v := .int .i64 (k : Int)) (W' := W2) (by go_simp) (Grows.refl _) rfl
              | 3, _ =>
                clear hd
                exact hop_value rfl rfl rfl (v := .int .i64 (j : Int)) (W' := W2) (by go_simp) (Grows.refl _) rfl
              | 4, _ =>
                have h2 : us 2 = .int .i64 (k : Int) := hd 2 (by omega) (by kernel_rfl)
                have h3 : us 3 = .int .i64 (j : Int) := hd 3 (by omega) (by kernel_rfl)
                clear hd
                refine hop_call rfl rfl rfl (f := 21) (args := #[.int .i64 (k : Int), .int .i64 (j : Int)]) (by go_simp) ?_
                refine (HM.out W2).mono ?_
                rintro e W' ⟨rfl, rfl⟩
                exact ⟨_, rfl, Grows.refl _, rfl⟩
              | 5, _ =>
                clear hd
                exact hop_value rfl rfl rfl (v := .slice (some ⟨bc, oc, none⟩) 1 c2) (W' := W2) (by go_simp) (Grows.refl _) rfl
              | 6, _ =>
                have h5 : us 5 = .slice (some ⟨bc, oc, none⟩) 1 c2 := hd 5 (by omega) (by kernel_rfl)
                clear hd
                exact hop_value rfl rfl rfl (v := .pointer (some ⟨bc, oc, none⟩)) (W' := W2) (by go_simp) (Grows.refl _) rfl
              | 7, _ =>
                have h6 : us 6 = .pointer (some ⟨bc, oc, none⟩) := hd 6 (by omega) (by kernel_rfl)
                clear hd
                have q0 := (hG.cell (b := bc) (o := oc) HLC.out).trans HC0.out
                have q0l := Nat.lt_of_lt_of_le HLC.out hG.size
                have q1 := (hG.cell (b := bc) (o := oc + 1) HLC.out).trans HC1.out
                have q1l := Nat.lt_of_lt_of_le HLC.out hG.size
                exact hop_value rfl rfl rfl (v := .agg #[.int .u64 (x.1 : Int), .int .u64 (x.2 : Int)]) (W' := W2) (by go_simp) (Grows.refl _) rfl
              | 8, _ =>
                have h0 : us 0 = .slice As m cs := hd 0 (by omega) (by kernel_rfl)
                have h4 : us 4 = .int .i64 (M : Int) := hd 4 (by omega) (by kernel_rfl)
                have h7 : us 7 = .agg #[.int .u64 (x.1 : Int), .int .u64 (x.2 : Int)] := hd 7 (by omega) (by kernel_rfl)
                clear hd
                refine hop_call rfl rfl rfl (f := 35) (args := #[.slice As m cs, .int .i64 (M : Int), .agg #[.int .u64 (x.1 : Int), .int .u64 (x.2 : Int)]]) (by go_simp) ?_
                refine (HON.out W2 hG).mono ?_
                rintro e W' ⟨A3, c3, A4, c4, he, l1, l2, hb, hnew⟩
                exact ⟨_, he, hb, A3, c3, A4, c4, rfl, l1, l2, fun b hbb => ⟨Nat.le_trans hG.size (hnew b hbb).1, (hnew b hbb).2⟩⟩
              | d + 9, h => exact absurd h (by omega)
            case htailA =>
              intro us W2 hG hf
              obtain ⟨A3, c3, A4, c4, h11, h12, h13, h14⟩ : ∃ (A3 : Option Addr) (c3 : Nat) (A4 : Option Addr) (c4 : Nat), us 8 = .tuple #[.slice A3 ns c3, .slice A4 nw c4] ∧ Lies spL W2 W2.heap.size (.slice A3 ns c3) st ∧ Lies spL W2 W2.heap.size (.slice A4 nw c4) we ∧ ∀ b, (Value.slice A3 ns c3).ownBlock = some b ∨ (Value.slice A4 nw c4).ownBlock = some b → w5.heap.size ≤ b ∧ Ty W2 54 b := hf 8 (by omega)
              clear hf
              rw [h11]
              have HG2 := Lib.hid hG
              have H12 := Lib.hid h12
              have H13 := Lib.hid h13
              have H14 := Lib.hid h14
              clear h11 h12 h13 h14 hG
              simp only [List.drop_succ_cons, List.drop_zero]
              repeat (go_big_quiet_step (fail))
              refine wpQuiet_nil ?_
              rintro w' ⟨nq, rfl⟩
              have hbw' : Below w5.heap.size w5 (W2.drewN nq) := below_drewN HG2.out _
              have HBX := Lib.hid (thn HBW.out hbw')
              clear hbw'
              go_wp2
              go_meet
              case rel => exact ⟨A4, nw, c4, A3, ns, c3, rfl, rfl, HNW.out, HNS.out, H13.out, H12.out, (fun _ b hb => ⟨Nat.le_trans HZ5.out (H14.out b (.inr hb)).1, (H14.out b (.inr hb)).2⟩), (fun _ b hb => ⟨.inr (Nat.lt_of_lt_of_le HLO.out (Nat.le_trans HZ5.out (H14.out b (.inl hb)).1)), HV5.out b (Nat.le_trans HZ5.out (H14.out b (.inl hb)).1), (H14.out b (.inl hb)).2⟩), HBX.out⟩
          · have e1 : n2 = 0 := by omega
            subst e1
            obtain ⟨e2, e3⟩ := HNO.out rfl
            have hw0 : we.length = 0 := by rw [e3]; rfl
            have hs0 : st.length = m := by rw [e2, HMM.out]
            have hl1 : Lies spL w5 w5.heap.size (.slice A2 0 c2) we := by
              have := HCO.out.grow HBW.out
              have hc0 : come = [] := List.eq_nil_of_length_eq_zero HN2.out
              rw [e3, ← hc0]
              exact this
            have hl2 : Lies spL w5 w5.heap.size (.slice As m cs) st := by
              rw [e2]
              exact (HLS.out.mono hws).grow HBW.out
            have hz : st ≠ [] → ∀ b, (Value.slice As m cs).ownBlock = some b → (b < w.heap.size ∨ bO < b) ∧ v.ownBlock ≠ some b ∧ Ty w5 54 b := by
              intro hn b hb
              rw [e2] at hn
              have hbl : b < w.heap.size := lies_lt HLS.out hn hb
              have hty := HHS.out hn b hb
              exact ⟨.inl hbl, fun e => by have := (HOW.out.lt b e).1; omega, hty.keep (HBW.out.block b hty.lt)⟩
            have HW0' := Lib.hid hw0
            have HS0' := Lib.hid hs0
            have HL1' := Lib.hid hl1
            have HL2' := Lib.hid hl2
            have HZ' := Lib.hid hz
            have HE3 := Lib.hid e3
            clear hw0 hs0 hl1 hl2 hz e2 e3 h1
            go_wp2
            go_meet
            case rel => exact ⟨A2, 0, c2, As, m, cs, rfl, rfl, HW0'.out, HS0'.out, HL1'.out, HL2'.out, (fun h => absurd HE3.out h), HZ'.out, HBW.out⟩
        case rest =>
          obtain ⟨A4, nw', c4, A3, ns', c3, rfl, rfl, hnw', hns', hle4, hle3, hz4, hz3, hbx⟩ := hcut
          have hox := (hbx.block bO HLO.out).trans HOX.out
          obtain ⟨e0, e1, e2⟩ := box3 hox
          have le := lt_of hox
          have hoy := HOW.out.grow hbx
          have HOY := Lib.hid hoy
          have HOX2 := Lib.hid hox
          have hbase : bO + 1 ≤ wc.heap.size := by omega
          have HLE3 := Lib.hid hle3
          have HLE4 := Lib.hid hle4
          have HZ3 := Lib.hid hz3
          have HZ4 := Lib.hid hz4
          have HBXX := Lib.hid hbx
          have HNW' := Lib.hid hnw'
          clear hox hoy hle3 hle4 hz3 hz4 hbx hnw' hns' HAT HM
          go_wp2_with (at_builtin; refine wpList_lev _ 24 info_row Try.underlying24 rfl (by decide) wc rfl _ _ rfl (bO + 1) v (.slice A3 ns' c3) (R.take j) st rfl HOY.out wc.heap.size rfl rfl HLE3.out HZ3.out (by have := HRJ.out; rw [List.length_take]; omega) hbase ?_; intro v' w3 ho3 hq3 hg3; rw [HTK.out] at ho3; obtain ⟨g2, cap2, hv2, hg21, hg22, hcap2⟩ := ho3.addr (by rw [List.length_take]; have := HRJ.out; omega); rw [show (R.take (j + 1)).length = j + 1 from by rw [List.length_take]; have := HRJ.out; omega] at hv2 hcap2; subst hv2; have hox3 := (hg3.block bO (by simp; omega) (fun e => HVO.out e.symm)).trans ((Below.heap_alloc _ _ _ le).trans HOX2.out); obtain ⟨i0, i1, i2⟩ := box3 hox3; have f2 : w3.frozen? ⟨bO, 2, none⟩ = false := (by simp [World.frozen?, hox3]); have l3 := lt_of hox3; have hne : g2 ≠ bO := (by omega); have HO3 := Lib.hid ho3; have HQ3 := Lib.hid hq3; have HG3 := Lib.hid hg3; have HOX3 := Lib.hid hox3; clear ho3 hq3 hg3 hox3)
          have hl4 := ((HLE4.out.grow ((Below.refl _ wc).alloc (Nat.le_refl _) _)).off2 HG3.out fun hn b hb e => HV5.out b (HZ4.out hn b hb).1 e.symm)
          have hl5 := hl4.off2 (grown_set w3 bO 2 (.slice (some ⟨g2, 0, none⟩) (j + 1) cap2)) fun hn b hb e => by
            injection e with e
            have := (HZ4.out hn b hb).1
            have := HLO.out
            omega
          refine ⟨⟨j + 1, we, A4, nw', c4, .slice (some ⟨g2, 0, none⟩) (j + 1) cap2, rfl, by go_num, HNW'.out, HRJ.out, HAN.out, hl5, ?_, ?_, HO3.out.off (grown_set w3 bO 2 _) (fun e => by injection e with e; exact hne e) (fun b hb => by rcases hb with hb | hb <;> omega), ?_⟩, by simp [intOf]; have := HRJ.out; omega⟩
          · intro hn b hb
            have hz := (HZ4.out hn b hb)
            refine ⟨by have := hz.1; have := HLO.out; omega, fun e => ?_⟩
            have hbl : b < wc.heap.size := hz.2.lt
            rcases HQ3.out with e' | e'
            · rw [e'] at e
              exact HV5.out b hz.1 e
            · rw [e'] at e
              injection e with e
              omega
          · have := set1 (o := 2) (.slice (some ⟨g2, 0, none⟩) (j + 1) cap2) HOX3.out
            exact this
          · exact (((HBEL.out.trans (HBXX.out.mono (by have := HLO.out; omega))).alloc (by omega) _).grown HG3.out (by simp; omega) (fun x e => by have := (HOW.out.lt x e).1; omega)).setCell (p := ⟨bO, 2, none⟩) (Nat.le_refl _) _
    · have e1 : n2 = 0 := by omega
      have e3 : ¬ (j < N) := by omega
      have hc0 : come = [] := List.eq_nil_of_length_eq_zero (by rw [HN2.out]; exact e1)
      have hd := HDN.out (by rw [HN.out]; omega) hc0
      have eR : R.take j = R := List.take_of_length_le hd
      have how := HOW.out
      rw [eR] at how
      obtain ⟨Av, cv, rfl, -, -⟩ := how.form
      have hbl := HBEL.out
      have hbr := (hbl.block (w.heap.size + 1) (by omega)).trans P1.out
      obtain ⟨y0, y1, y2⟩ := box3 hbr
      have f1 : ∀ i, wr.frozen? ⟨w.heap.size + 1, i, none⟩ = false := fun i => by simp [World.frozen?, hbr]
      have hlr := lt_of hbr
      obtain ⟨z0, z1, z2⟩ := box3 HOX.out
      obtain ⟨NR, hNR⟩ : ∃ NR, R.length = NR := ⟨_, rfl⟩
      rw [hNR] at how z2
      have o3 := how.off (grown3 (b := w.heap.size + 1) (.int .i64 k) (.int .i64 0) (.slice Av NR cv)) (fun e => by have := (how.lt _ e).1; omega) (fun b hb => by rcases hb with hb | hb <;> omega)
      have hres3 := set3 hbr (.int .i64 k) (.int .i64 0) (.slice Av NR cv)
      have hb3 := below3 hbw (b := w.heap.size + 1) (by omega) (.int .i64 k) (.int .i64 0) (.slice Av NR cv)
      obtain ⟨t0, t1, t2⟩ := box3 hres3
      have hnO : bO ≠ w.heap.size + 1 := by omega
      have O3 := Lib.hid o3.levs
      have HB3 := Lib.hid hb3
      have T0 := Lib.hid t0
      have T1 := Lib.hid t1
      have T2 := Lib.hid t2
      have HNR := Lib.hid hNR
      have lo := HLO.out
      have g1 : decide (0 < n2) = false := by simp; omega
      have g2 : decide (j < N) = false := by simpa using e3
      clear hgo HNX HDN HN2 hd eR how hbl hbr hNR o3 hres3 hb3 t0 t1 t2 HAT HM HOW HOX HVO e1 hc0 e3 hbw HCO HCB
      go_wp2
      refine bodyPost_ret (v := hv k 0 (.slice Av NR cv)) (by simp [results, Try.results20, go_sem, T0.out, T1.out, T2.out]) rfl ⟨Av, cv, by rw [HNR.out], by rw [HNR.out]; exact O3.out, HB3.out⟩

end Go.Proofs.Ytimlmaincblkoaa
