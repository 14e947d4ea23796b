/-
  'skylight/skylightlaw05.LevelOrder' returns true for every input, and the input reads afterwards as it read before. Conditions: none.
-/
import Derived.Test.YtdejljncodpkeaaRows
import Derived.WalkKit
import Derived.ProofKit
import Derived.OpenShut
import Derived.ShutString
import Derived.ChangeOld
import Derived.Below
import Derived.Test.YtdejljncodpkeaaOpen
import Derived.Test.YtdejljncodpkeaaLOne
import Derived.Test.YtdejljncodpkeaaFacts3
namespace Go.Proofs.Ytdejljncodpkeaa.levelOrder
open Go.Proofs Go.Proofs.Lm Go.Proofs.Op Go.Proofs.Rw Go.Proofs.Rf
open Go.ChangeShapes Go.WideShapes Go.ChangeAt Go.RowKit
open Go.ChangeMaps (open_string shut_string)
set_option linter.unusedVariables false

theorem own : ownKnob Try.prog.godebug = none := by kernel_rfl
theorem laidOut : laidOutB Try.prog = true := by kernel_rfl

/-- A slice of integers that came in: nil, or a row of cells of its capacity, each fitting its kind. -/
def IsRow (k : IntKind) (w : World) (a : Option Addr) (len cap : Nat) (zs : List Int) : Prop :=
  (a = none ∧ len = 0 ∧ cap = 0 ∧ zs = []) ∨
  ∃ x, a = some x ∧ len ≤ cap ∧ cap ≤ maxLen ∧ zs.length = cap ∧ (∀ i, i < zs.length → w.cell? (x.add i) = some (.int k (zs.getD i 0))) ∧ ∀ n ∈ zs, (Lit.int k n).wf = true

theorem fit2_of {c : List Value} (h : Op.Fits [.u8, .u8, .u8] c) : ∃ x0 x1 x2 : Int, c = [.int .u8 x0, .int .u8 x1, .int .u8 x2] ∧ (Lit.int .u8 x0).wf = true ∧ (Lit.int .u8 x1).wf = true ∧ (Lit.int .u8 x2).wf = true := by
  match c, h with
  | [_, _, _], ⟨⟨x0, e0, e0w⟩, ⟨x1, e1, e1w⟩, ⟨x2, e2, e2w⟩, _⟩ =>
    subst e0; subst e1; subst e2
    exact ⟨x0, x1, x2, rfl, e0w, e1w, e2w⟩

theorem box_block {w wn : World} {o : Obj} (h : Below (w.alloc o).heap.size (w.alloc o) wn) : wn.heap[w.heap.size]? = some o := by
  rw [h.block _ (by simp)]
  exact heap_alloc_new w o
theorem box_below {w wn : World} {o : Obj} (h : Below (w.alloc o).heap.size (w.alloc o) wn) : Below w.heap.size w wn := ((Below.refl _ w).alloc (Nat.le_refl _) o).trans (h.mono (by simp))
open Go.Proofs.Lm (el two pairs wentN stayN leftN went stay one)
open Go.Proofs.Rf
/-- A slice of bytes that came in: each one's cell. -/
theorem bytes_of {w : World} {A : Option Addr} {len cap : Nat} {zs : List Int} (h : (A = none ∧ len = 0 ∧ cap = 0 ∧ zs = []) ∨
    ∃ x, A = some x ∧ len ≤ cap ∧ cap ≤ maxLen ∧ zs.length = cap ∧ (∀ i, i < zs.length → w.cell? (x.add i) = some (.int .u8 (zs.getD i 0))) ∧ ∀ n ∈ zs, (Lit.int .u8 n).wf = true) (h0 : 0 < len) :
    ∃ b off, A = some ⟨b, off, none⟩ ∧ b < w.heap.size ∧ ∃ f : Nat → Nat, ∀ i, i < len → w.cell? ⟨b, off + i, none⟩ = some (.int .u8 (f i)) ∧ f i < 256 := by
  rcases h with ⟨rfl, rfl, rfl, rfl⟩ | ⟨x, rfl, h1, h2, h3, h4, h5⟩
  · omega
  · obtain ⟨b, off, rfl, hc⟩ := ints_at h4 (by omega)
    refine ⟨b, off, rfl, World.block_lt_of_cell? w ⟨b, off + 0, none⟩ (hc 0 (by omega)), fun i => (zs.getD i 0).toNat, fun i hi => ?_⟩
    have hb : 0 ≤ zs.getD i 0 ∧ zs.getD i 0 ≤ 255 := by
      rw [List.getD_eq_getElem?_getD, List.getElem?_eq_getElem (by omega)]
      exact bounds_u8 (h5 _ (List.getElem_mem _))
    rw [hc i (by omega)]
    refine ⟨?_, (by show (zs.getD i 0).toNat < 256; omega)⟩
    have e : (((zs.getD i 0).toNat : Nat) : Int) = zs.getD i 0 := by omega
    show some (Value.int .u8 (zs.getD i 0)) = some (Value.int .u8 (((zs.getD i 0).toNat : Nat) : Int))
    rw [e]
theorem lit1' (W : World) (n : Nat) (hn : W.heap.size = n) (x y : Int) (a b : Nat) (hx : x = a) (hy : y = b) : Lies spL (W.alloc (.cells #[.int .u64 x, .int .u64 y] 33)) (n + 1) (.slice (some ⟨n, 0, none⟩) 1 1) [(a, b)] := by
  subst hx hy
  exact lit1 W n hn a b
/-- Buckets that were made, in turn. -/
def AllAt (w wr : World) (v : Value) (j t : Nat) : Prop :=
  ∃ l : List Rw.Sp, l.length = j ∧ Own wr w.heap.size v l ∧ Lm.Turn l ∧ (∀ x ∈ l, x.2 ≤ t) ∧ (j = 0 → v = .slice none 0 0) ∧ t ≤ 510 * j ∧ Below w.heap.size w wr
theorem own_some {w : World} {base : Nat} {A : Option Addr} {c : Nat} {xs : List Rw.Sp} (h : Own w base (.slice A xs.length c) xs) (h0 : 0 < xs.length) : ∃ g, A = some ⟨g, 0, none⟩ ∧ base ≤ g := by
  rcases h.2 with ⟨_, h1⟩ | ⟨g, cap, cur, hv, hb, _⟩
  · omega
  · injection hv with e1 _ _
    exact ⟨g, e1, hb⟩
/-- What Push told, in slots. -/
def PushedAt (w wx : World) (x y z : Value) (st wl : List Rw.Sp) (K : Nat) : Prop :=
  ∃ b c : Nat, x = .slice (some ⟨b, 0, none⟩) st.length st.length ∧ y = .slice (some ⟨c, 0, none⟩) wl.length wl.length ∧ z = .int .u64 (K : Int) ∧ Lies spL wx wx.heap.size (.slice (some ⟨b, 0, none⟩) st.length st.length) st ∧ Lies spL wx wx.heap.size (.slice (some ⟨c, 0, none⟩) wl.length wl.length) wl ∧ Below w.heap.size w wx

set_option maxRecDepth 100000 in
set_option maxHeartbeats 4000000 in
theorem walk (a0 : Option Addr) (len0 cap0 : Nat) (z0 : List Int) (a1 : Int) (a2_0 a2_1 a2_2 : Int) (w : World) (w0 : IsRow .u8 w a0 len0 cap0 z0) (w1 : (Lit.int .u8 a1).wf = true) (w2_0 : (Lit.int .u8 a2_0).wf = true) (w2_1 : (Lit.int .u8 a2_1).wf = true) (w2_2 : (Lit.int .u8 a2_2).wf = true) :
    Calls Try.prog 7 #[.slice a0 len0 cap0, .int .u8 a1, .agg #[.int .u8 a2_0, .int .u8 a2_1, .int .u8 a2_2]] w fun e w' => e = .returned (.bool true) ∧ Below w.heap.size w w' := by
  obtain ⟨b200, b201⟩ := bounds_u8 w2_0
  obtain ⟨n0, rfl⟩ : ∃ m : Nat, a2_0 = m := ⟨a2_0.toNat, by omega⟩
  obtain ⟨b210, b211⟩ := bounds_u8 w2_1
  obtain ⟨n1, rfl⟩ : ∃ m : Nat, a2_1 = m := ⟨a2_1.toNat, by omega⟩
  obtain ⟨b220, b221⟩ := bounds_u8 w2_2
  obtain ⟨n2, rfl⟩ : ∃ m : Nat, a2_2 = m := ⟨a2_2.toNat, by omega⟩
  have ln0 : n0 < 256 := by omega
  have ln1 : n1 < 256 := by omega
  have ln2 : n2 < 256 := by omega
  clear w2_0 b200 b201 w2_1 b210 b211 w2_2 b220 b221
  obtain ⟨b10, b11⟩ := bounds_u8 w1
  obtain ⟨cut, rfl⟩ : ∃ m : Nat, a1 = m := ⟨a1.toNat, by omega⟩
  have lcut : cut < 256 := by omega
  clear w1 b10 b11
  have HW0 := Lib.hid w0
  have hcl : len0 ≤ cap0 := by rcases w0 with ⟨_, h1, h2, _⟩ | ⟨_, _, h1, _⟩ <;> omega
  clear w0
  obtain ⟨k, hk⟩ : ∃ k, n0 % 20 = k := ⟨_, rfl⟩
  have ek : (n0 : Int) % 20 = k := by omega
  have hkl : k < 20 := by omega
  clear hk
  by_cases hc : len0 ≤ 40
  · have hd : ¬ ((40 : Int) < len0) := by omega
    go_enter Try.func7, Try.ntmps7
    go_wp2_with (go_at_call 8; refine (awake_any _).mono ?_; rintro e wn ⟨rfl, hn⟩; have hbx := box_block hn; have hlt := lt_of hbx; have s0 : wn.cell? ⟨w.heap.size, 0, none⟩ = some (.int .u8 n0) := (by simp [World.cell?, hbx]); have s1 : wn.cell? ⟨w.heap.size, 1, none⟩ = some (.int .u8 n1) := (by simp [World.cell?, hbx]); have s2 : wn.cell? ⟨w.heap.size, 2, none⟩ = some (.int .u8 n2) := (by simp [World.cell?, hbx]); have HB := Lib.hid (box_below hn); clear hbx hn)
    have HLT := Lib.hid hlt
    have S0 := Lib.hid s0
    have S1 := Lib.hid s1
    have EK := Lib.hid ek
    clear s0 s1 s2 hlt ek
    go_loopw [8, 9, 10] (fun v t i wr => ∃ j t' : Nat, i = .int .i64 (2 * (j : Int)) ∧ t = .int .u64 t' ∧ 2 * j ≤ len0 ∧ AllAt wn wr v j t') (fun _ _ i _ => len0 - (intOf i).toNat)
    case atStart => exact ⟨0, 0, rfl, rfl, Nat.zero_le _, [], rfl, World.ownsRow_nil _ _ _ _, Lm.Turn.nil, by simp, fun _ => rfl, Nat.zero_le _, Below.refl _ _⟩
    case round =>
      obtain ⟨j, t, rfl, rfl, hj, l, hlj, hown, hturn, hle, hnil, htb, hbel⟩ := hrel
      have HOWN := Lib.hid hown
      have HBEL := Lib.hid hbel
      have HTU := Lib.hid hturn
      have HLE := Lib.hid hle
      have HNIL := Lib.hid hnil
      have HLJ := Lib.hid hlj
      have hl20 : l.length ≤ 40 := by omega
      clear hown hturn hle hnil hlj
      by_cases hlt : 2 * j + 1 < len0
      · obtain ⟨b, off, rfl, hb, f, hf⟩ := bytes_of HW0.out (by omega)
        obtain ⟨q0, fx⟩ := hf (2 * j) (by omega)
        obtain ⟨q1, fy⟩ := hf (2 * j + 1) (by omega)
        generalize f (2 * j) = x at *
        generalize f (2 * j + 1) = y at *
        have hbw := thn HB.out hbel
        replace q0 := (hbw.cell (p := ⟨b, off + 2 * j, none⟩) hb).trans q0
        replace q1 := (hbw.cell (p := ⟨b, off + (2 * j + 1), none⟩) hb).trans q1
        have hbs : b < wr.heap.size := Nat.lt_of_lt_of_le hb hbw.size
        have d1 : 2 * (j : Int) + 1 < len0 := by omega
        have t1 : (2 * (j : Int)).toNat = 2 * j := by omega
        have t2 : (2 * (j : Int) + 1).toNat = 2 * j + 1 := by omega
        clear hf hbel hbw
        go_wp2_with (at_builtin; refine wpList_app2 33 _ 16 info_sp Try.underlying22 rfl (by decide) (by decide) _ rfl _ _ rfl wn.heap.size _ _ l [(t + x, t + x + y)] _ rfl (HOWN.out.alloc _) rfl (lit1' _ _ rfl _ _ (t + x) (t + x + y) (by omega) (by omega)) (sp_one _) (by simp; omega) (by have := HBEL.out.size; simp; omega) ?_; intro v' w3 ho3 hg3 hq3; have HO3 := Lib.hid ho3; have HG3 := Lib.hid hg3; clear ho3 hg3 hq3)
        refine ⟨⟨j + 1, t + x + y, by (congr 1 <;> omega), by (congr 1 <;> omega), by omega, l ++ [(t + x, t + x + y)], by simp [HLJ.out], HO3.out, ?_, ?_, fun h => by omega, by omega, (HBEL.out.alloc HBEL.out.size _).grown HG3.out (by have := HBEL.out.size; simp; omega) (fun k hk => (HOWN.out.lt k hk).1)⟩, by simp [intOf]; omega⟩
        · exact HTU.out.snoc HLE.out (by simp) (by simp)
        · intro z hz
          rcases List.mem_append.1 hz with hz | hz
          · have := HLE.out z hz
            omega
          · rw [List.mem_singleton.1 hz]
            exact Nat.le_refl _
      · have d1 : ¬ (2 * (j : Int) + 1 < len0) := by omega
        obtain ⟨Aa, ca, rfl, hca, hcam⟩ := own_form HOWN.out
        have s0 := (hbel.cell (p := ⟨w.heap.size, 0, none⟩) HLT.out).trans S0.out
        have s1 := (hbel.cell (p := ⟨w.heap.size, 1, none⟩) HLT.out).trans S1.out
        have hwo : w.heap.size < wr.heap.size := Nat.lt_of_lt_of_le HLT.out hbel.size
        rename World => wo
        have HWO := Lib.hid hwo
        obtain ⟨q, hq⟩ : ∃ q, min (cut % (l.length + 1)) (k + 1) = q := ⟨_, rfl⟩
        have hqc := Nat.mod_lt cut (show 0 < l.length + 1 by omega)
        have hql : q ≤ l.length := by omega
        have hqk : q ≤ k + 1 := by omega
        have HQ := Lib.hid hq
        have HCAM := Lib.hid hcam
        clear hq hqc hbel hcam hlt S0 S1
        have hmo : (cut : Int) % ((l.length : Int) + 1) = ((cut % (l.length + 1) : Nat) : Int) := by simp
        obtain ⟨r, hr⟩ : ∃ r, cut % (l.length + 1) = r := ⟨_, rfl⟩
        rw [hr] at hmo
        have hrq : min r (k + 1) = q := by rw [← hr]; exact HQ.out
        have HRQ := Lib.hid hrq
        have hrb : r ≤ 40 := by have := Nat.mod_lt cut (show 0 < l.length + 1 by omega); omega
        clear hr hrq HQ
        have ek := EK.out
        go_upto_region 13 with (fail)
        go_cut [13] from 52 to 64 (fun s13 wx => s13 = .int .i64 q ∧ wo = wx)
        case first =>
          by_cases hmin : r ≤ k + 1
          · have d2 : (r : Int) ≤ 1 + k := by omega
            go_wp2
            all_goals
              go_meet
              case rel => exact ⟨by have := HRQ.out; congr 1; omega, rfl⟩
          · have d2 : ¬ ((r : Int) ≤ 1 + k) := by omega
            go_wp2
            all_goals
              go_meet
              case rel => exact ⟨by have := HRQ.out; congr 1; omega, rfl⟩
        case rest =>
          obtain ⟨rfl, rfl⟩ := hcut
          clear hmo HRQ ek hwo
          have hp := fun (W : World) (A1 A2 : Option Addr) (c1 c2 : Nat) (h1 : Lies spL W W.heap.size (.slice A1 (l.take q).length c1) (l.take q)) (h2 : Lies spL W W.heap.size (.slice A2 (l.drop q).length c2) (l.drop q)) => push_any (l.take q) (l.drop q) (1 + (k : Int)) n1 t (by simp; omega) (by omega) (by omega) W W.heap.size A1 A2 c1 c2 h1 h2 (Nat.le_refl _)
          have hroom : roomOf (1 + (k : Int)) = k + 1 := by unfold roomOf; omega
          have htl : (l.take q).length = q := by simp; omega
          have hdl : (l.drop q).length = l.length - q := by simp
          simp only [hroom, List.take_append_drop, htl, hdl] at hp
          have hwt := Lm.whole_turn HTU.out HLE.out n1 (k + 1)
          have b1 := Lm.leftN_le l.length n1 (k + 1) (by omega)
          have b2 := Lm.stayN_le (n := l.length) (many := n1) (room := k + 1)
          have b3 := Lm.wentN_half l.length n1 (k + 1)
          rw [← Lm.stay_len l t] at b2
          rw [← Lm.went_len l t] at b3
          obtain ⟨st, hst⟩ : ∃ x, stay l t n1 (k + 1) = x := ⟨_, rfl⟩
          obtain ⟨wl, hwl⟩ : ∃ x, went l t n1 (k + 1) = x := ⟨_, rfl⟩
          obtain ⟨K, hK⟩ : ∃ x, leftN l.length n1 (k + 1) = x := ⟨_, rfl⟩
          simp only [hst, hwl, hK] at hp hwt b1 b2 b3
          have hwh := hwt (min K 100) (Nat.min_le_left _ _)
          have HP := Lib.hid hp
          have HWH := Lib.hid hwh
          have HS1 := Lib.hid s1
          have g1 : st.length ≤ 20 := by omega
          have g2 : wl.length ≤ 30 := by omega
          clear hp hwt hwh hst hwl hK hroom htl hdl b1 b2 b3 s0 s1 HTU HLE
          go_upto_region 14 with (fail)
          go_cut [14, 15, 16] from 65 to 80 (fun x y z wx => PushedAt wo wx x y z st wl K)
          case first =>
            rcases Nat.eq_zero_or_pos j with h0 | h0
            · have e := HNIL.out h0
              have hl0 : l = [] := List.eq_nil_of_length_eq_zero (by rw [HLJ.out]; exact h0)
              injection e with e1 e2 e3
              have hq0 : q = 0 := by omega
              subst e1 hq0 e3
              have hpn := fun (W : World) (_ : Grows wo W) => HP.out W none none 0 0 (by rw [hl0]; exact Lies.nil _ _ (by unfold maxLen; omega)) (by rw [hl0]; exact Lies.nil _ _ (by unfold maxLen; omega))
              rw [Nat.sub_zero] at hpn
              have HPN := Lib.hid hpn
              have E2 := Lib.hid e2
              clear hpn e2 hl0 h0 hca hql
              refine region_facts0 (fr := ?frA) 12 [66, 67, 68, 69, 70, 71, 72, 73, 74, 75, 76, 77] (fun i v W => match i with
                  | 0 => v = .slice none l.length 0
                  | 1 => v = .int .i64 0
                  | 2 => v = .slice none 0 0
                  | 3 => v = .int .i64 (1 + (k : Int))
                  | 4 => v = .slice none l.length 0
                  | 5 => v = .int .i64 0
                  | 6 => v = .slice none l.length 0
                  | 7 => v = .pointer (some ⟨w.heap.size, 1, none⟩)
                  | 8 => v = .int .u8 (n1 : Int)
                  | 9 => v = .int .u64 (n1 : Int)
                  | 10 => v = .int .u64 (t : Int)
                  | 11 => ∃ b c : Nat, v = .tuple #[.slice (some ⟨b, 0, none⟩) st.length st.length, .slice (some ⟨c, 0, none⟩) wl.length wl.length, .int .u64 (K : Int)] ∧ Lies spL W W.heap.size (.slice (some ⟨b, 0, none⟩) st.length st.length) st ∧ Lies spL W W.heap.size (.slice (some ⟨c, 0, none⟩) wl.length wl.length) wl
                  | _ => True) rfl ?hBA (by kernel_rfl) (by kernel_rfl) (by kernel_rfl) ?hfrA ?hFA ?hopA ?htailA
              case hBA => kernel_rfl
              case hfrA =>
                intro us
                simp only [putL]
                go_simp
                rfl
              case hFA =>
                intro i v W W' hG h
                match i with
                | 0 => exact h
                | 1 => exact h
                | 2 => exact h
                | 3 => exact h
                | 4 => exact h
                | 5 => exact h
                | 6 => exact h
                | 7 => exact h
                | 8 => exact h
                | 9 => exact h
                | 10 => exact h
                | 11 =>
                  obtain ⟨b, c, h1, h2, h3⟩ := h
                  exact ⟨b, c, h1, h2.grow hG, h3.grow hG⟩
                | n + 12 => trivial
              case hopA =>
                intro i hi us W2 hG hd
                match i, hi with
                | 0, _ =>
                  clear hd
                  exact hop_value rfl rfl rfl (v := .slice none l.length 0) (W' := W2) (by go_simp) (Grows.refl _) rfl
                | 1, _ =>
                  clear hd
                  exact hop_value rfl rfl rfl (v := .int .i64 0) (W' := W2) (by go_simp) (Grows.refl _) rfl
                | 2, _ =>
                  have h0 : us 0 = .slice none l.length 0 := hd 0 (by omega) (by kernel_rfl)
                  have h1 : us 1 = .int .i64 0 := hd 1 (by omega) (by kernel_rfl)
                  clear hd
                  exact hop_value rfl rfl rfl (v := .slice none 0 0) (W' := W2) (by go_simp) (Grows.refl _) rfl
                | 3, _ =>
                  clear hd
                  exact hop_value rfl rfl rfl (v := .int .i64 (1 + (k : Int))) (W' := W2) (by go_simp) (Grows.refl _) rfl
                | 4, _ =>
                  clear hd
                  exact hop_value rfl rfl rfl (v := .slice none l.length 0) (W' := W2) (by go_simp) (Grows.refl _) rfl
                | 5, _ =>
                  clear hd
                  exact hop_value rfl rfl rfl (v := .int .i64 0) (W' := W2) (by go_simp) (Grows.refl _) rfl
                | 6, _ =>
                  have h4 : us 4 = .slice none l.length 0 := hd 4 (by omega) (by kernel_rfl)
                  have h5 : us 5 = .int .i64 0 := hd 5 (by omega) (by kernel_rfl)
                  clear hd
                  rw [E2.out] at h4 ⊢
                  exact hop_value rfl rfl rfl (v := .slice none 0 0) (W' := W2) (by go_simp) (Grows.refl _) (by rfl)
                | 7, _ =>
                  clear hd
                  exact hop_value rfl rfl rfl (v := .pointer (some ⟨w.heap.size, 1, none⟩)) (W' := W2) (by go_simp) (Grows.refl _) rfl
                | 8, _ =>
                  have h7 : us 7 = .pointer (some ⟨w.heap.size, 1, none⟩) := hd 7 (by omega) (by kernel_rfl)
                  clear hd
                  have c := (hG.cell (b := w.heap.size) (o := 1) HWO.out).trans HS1.out
                  exact hop_value rfl rfl rfl (v := .int .u8 (n1 : Int)) (W' := W2) (by go_simp) (Grows.refl _) rfl
                | 9, _ =>
                  have h8 : us 8 = .int .u8 (n1 : Int) := hd 8 (by omega) (by kernel_rfl)
                  clear hd
                  have e := IntWalk.u64_in (n1 : Int) ⟨by omega, by omega⟩
                  exact hop_value rfl rfl rfl (v := .int .u64 (n1 : Int)) (W' := W2) (by go_simp) (Grows.refl _) rfl
                | 10, _ =>
                  clear hd
                  exact hop_value rfl rfl rfl (v := .int .u64 (t : Int)) (W' := W2) (by go_simp) (Grows.refl _) rfl
                | 11, _ =>
                  have h2 : us 2 = .slice none 0 0 := hd 2 (by omega) (by kernel_rfl)
                  have h3 : us 3 = .int .i64 (1 + (k : Int)) := hd 3 (by omega) (by kernel_rfl)
                  have h6 : us 6 = .slice none l.length 0 := hd 6 (by omega) (by kernel_rfl)
                  have h9 : us 9 = .int .u64 (n1 : Int) := hd 9 (by omega) (by kernel_rfl)
                  have h10 : us 10 = .int .u64 (t : Int) := hd 10 (by omega) (by kernel_rfl)
                  clear hd
                  refine hop_call rfl rfl rfl (f := 10) (args := #[.slice none 0 0, .int .i64 (1 + (k : Int)), .slice none l.length 0, .int .u64 (n1 : Int), .int .u64 (t : Int)]) (by go_simp) ?_
                  refine (HPN.out W2 hG).mono ?_
                  rintro e W' ⟨b, c, he, _, _, _, o1, o2, hb⟩
                  exact ⟨_, he, hb, b, c, rfl, Lies.of_own (L := spL) o1, Lies.of_own (L := spL) o2⟩
                | d + 12, h => exact absurd h (by omega)
              case htailA =>
                intro us W2 hG hf
                obtain ⟨b, c, h11, h12, h13⟩ : ∃ b c : Nat, us 11 = .tuple #[.slice (some ⟨b, 0, none⟩) st.length st.length, .slice (some ⟨c, 0, none⟩) wl.length wl.length, .int .u64 (K : Int)] ∧ Lies spL W2 W2.heap.size (.slice (some ⟨b, 0, none⟩) st.length st.length) st ∧ Lies spL W2 W2.heap.size (.slice (some ⟨c, 0, none⟩) wl.length wl.length) wl := hf 11 (by omega)
                clear hf
                rw [h11]
                have HG2 := Lib.hid hG
                have H12 := Lib.hid h12
                have H13 := Lib.hid h13
                clear h11 h12 h13 hG
                simp only [List.drop_succ_cons, List.drop_zero]
                repeat (go_big_quiet_step (fail))
                refine wpQuiet_nil ?_
                rintro w' ⟨nq, rfl⟩
                go_wp2
                go_meet
                case rel => exact ⟨b, c, rfl, rfl, rfl, H12.out, H13.out, below_drewN HG2.out _⟩
            · have hlp : 0 < l.length := by rw [HLJ.out]; exact h0
              obtain ⟨g, rfl, hgb⟩ := own_some HOWN.out hlp
              have hLl := Lies.of_own (L := spL) HOWN.out
              have htk := hLl.take q ca hql (by omega) HCAM.out
              have hdr := fun A' h => hLl.drop q hql A' h
              obtain ⟨A', hA'⟩ : ∃ A', (if ca = q then some (⟨g, 0, none⟩ : Addr) else some ⟨g, q * 2, none⟩) = A' := ⟨_, rfl⟩
              have hdr' := hdr A' (fun b' off' e hlt => by
                injection e with e
                injection e with e1 e2 e3
                subst e1 e2
                rw [← hA', if_neg (by omega), Nat.zero_add]
                rfl)
              have hpn := fun (W : World) (hG : Grows wo W) => HP.out W (some ⟨g, 0, none⟩) A' ca (ca - q) (by have := htk.grow hG; simpa [Nat.min_eq_left hql] using this) (by have := hdr'.grow hG; simpa using this)
              have HPN := Lib.hid hpn
              have HA := Lib.hid hA'
              have hqi : (q : Int) ≤ l.length := by omega
              have hqc : (q : Int) ≤ ca := by omega
              have hqcn : q ≤ ca := by omega
              clear hpn hdr hdr' htk hLl hA' hgb h0
              refine region_facts0 (fr := ?frB) 12 [66, 67, 68, 69, 70, 71, 72, 73, 74, 75, 76, 77] (fun i v W => match i with
                  | 0 => v = .slice (some ⟨g, 0, none⟩) l.length ca
                  | 1 => v = .int .i64 (q : Int)
                  | 2 => v = .slice (some ⟨g, 0, none⟩) q ca
                  | 3 => v = .int .i64 (1 + (k : Int))
                  | 4 => v = .slice (some ⟨g, 0, none⟩) l.length ca
                  | 5 => v = .int .i64 (q : Int)
                  | 6 => v = .slice A' (l.length - q) (ca - q)
                  | 7 => v = .pointer (some ⟨w.heap.size, 1, none⟩)
                  | 8 => v = .int .u8 (n1 : Int)
                  | 9 => v = .int .u64 (n1 : Int)
                  | 10 => v = .int .u64 (t : Int)
                  | 11 => ∃ b c : Nat, v = .tuple #[.slice (some ⟨b, 0, none⟩) st.length st.length, .slice (some ⟨c, 0, none⟩) wl.length wl.length, .int .u64 (K : Int)] ∧ Lies spL W W.heap.size (.slice (some ⟨b, 0, none⟩) st.length st.length) st ∧ Lies spL W W.heap.size (.slice (some ⟨c, 0, none⟩) wl.length wl.length) wl
                  | _ => True) rfl ?hBB (by kernel_rfl) (by kernel_rfl) (by kernel_rfl) ?hfrB ?hFB ?hopB ?htailB
              case hBB => kernel_rfl
              case hfrB =>
                intro us
                simp only [putL]
                go_simp
                rfl
              case hFB =>
                intro i v W W' hG h
                match i with
                | 0 => exact h
                | 1 => exact h
                | 2 => exact h
                | 3 => exact h
                | 4 => exact h
                | 5 => exact h
                | 6 => exact h
                | 7 => exact h
                | 8 => exact h
                | 9 => exact h
                | 10 => exact h
                | 11 =>
                  obtain ⟨b, c, h1, h2, h3⟩ := h
                  exact ⟨b, c, h1, h2.grow hG, h3.grow hG⟩
                | n + 12 => trivial
              case hopB =>
                intro i hi us W2 hG hd
                match i, hi with
                | 0, _ =>
                  clear hd
                  exact hop_value rfl rfl rfl (v := .slice (some ⟨g, 0, none⟩) l.length ca) (W' := W2) (by go_simp) (Grows.refl _) rfl
                | 1, _ =>
                  clear hd
                  exact hop_value rfl rfl rfl (v := .int .i64 (q : Int)) (W' := W2) (by go_simp) (Grows.refl _) rfl
                | 2, _ =>
                  have h0 : us 0 = .slice (some ⟨g, 0, none⟩) l.length ca := hd 0 (by omega) (by kernel_rfl)
                  have h1 : us 1 = .int .i64 (q : Int) := hd 1 (by omega) (by kernel_rfl)
                  clear hd
                  exact hop_value rfl rfl rfl (v := .slice (some ⟨g, 0, none⟩) q ca) (W' := W2) (by go_simp) (Grows.refl _) rfl
                | 3, _ =>
                  clear hd
                  exact hop_value rfl rfl rfl (v := .int .i64 (1 + (k : Int))) (W' := W2) (by go_simp) (Grows.refl _) rfl
                | 4, _ =>
                  clear hd
                  exact hop_value rfl rfl rfl (v := .slice (some ⟨g, 0, none⟩) l.length ca) (W' := W2) (by go_simp) (Grows.refl _) rfl
                | 5, _ =>
                  clear hd
                  exact hop_value rfl rfl rfl (v := .int .i64 (q : Int)) (W' := W2) (by go_simp) (Grows.refl _) rfl
                | 6, _ =>
                  have h4 : us 4 = .slice (some ⟨g, 0, none⟩) l.length ca := hd 4 (by omega) (by kernel_rfl)
                  have h5 : us 5 = .int .i64 (q : Int) := hd 5 (by omega) (by kernel_rfl)
                  clear hd
                  rw [← HA.out]
                  exact hop_value rfl rfl rfl (v := .slice (if ca = q then some ⟨g, 0, none⟩ else some ⟨g, q * 2, none⟩) (l.length - q) (ca - q)) (W' := W2) (by go_simp) (Grows.refl _) rfl
                | 7, _ =>
                  clear hd
                  exact hop_value rfl rfl rfl (v := .pointer (some ⟨w.heap.size, 1, none⟩)) (W' := W2) (by go_simp) (Grows.refl _) rfl
                | 8, _ =>
                  have h7 : us 7 = .pointer (some ⟨w.heap.size, 1, none⟩) := hd 7 (by omega) (by kernel_rfl)
                  clear hd
                  have c := (hG.cell (b := w.heap.size) (o := 1) HWO.out).trans HS1.out
                  exact hop_value rfl rfl rfl (v := .int .u8 (n1 : Int)) (W' := W2) (by go_simp) (Grows.refl _) rfl
                | 9, _ =>
                  have h8 : us 8 = .int .u8 (n1 : Int) := hd 8 (by omega) (by kernel_rfl)
                  clear hd
                  have e := IntWalk.u64_in (n1 : Int) ⟨by omega, by omega⟩
                  exact hop_value rfl rfl rfl (v := .int .u64 (n1 : Int)) (W' := W2) (by go_simp) (Grows.refl _) rfl
                | 10, _ =>
                  clear hd
                  exact hop_value rfl rfl rfl (v := .int .u64 (t : Int)) (W' := W2) (by go_simp) (Grows.refl _) rfl
                | 11, _ =>
                  have h2 : us 2 = .slice (some ⟨g, 0, none⟩) q ca := hd 2 (by omega) (by kernel_rfl)
                  have h3 : us 3 = .int .i64 (1 + (k : Int)) := hd 3 (by omega) (by kernel_rfl)
                  have h6 : us 6 = .slice A' (l.length - q) (ca - q) := hd 6 (by omega) (by kernel_rfl)
                  have h9 : us 9 = .int .u64 (n1 : Int) := hd 9 (by omega) (by kernel_rfl)
                  have h10 : us 10 = .int .u64 (t : Int) := hd 10 (by omega) (by kernel_rfl)
                  clear hd
                  refine hop_call rfl rfl rfl (f := 10) (args := #[.slice (some ⟨g, 0, none⟩) q ca, .int .i64 (1 + (k : Int)), .slice A' (l.length - q) (ca - q), .int .u64 (n1 : Int), .int .u64 (t : Int)]) (by go_simp) ?_
                  refine (HPN.out W2 hG).mono ?_
                  rintro e W' ⟨b, c, he, _, _, _, o1, o2, hb⟩
                  exact ⟨_, he, hb, b, c, rfl, Lies.of_own (L := spL) o1, Lies.of_own (L := spL) o2⟩
                | d + 12, h => exact absurd h (by omega)
              case htailB =>
                intro us W2 hG hf
                obtain ⟨b, c, h11, h12, h13⟩ : ∃ b c : Nat, us 11 = .tuple #[.slice (some ⟨b, 0, none⟩) st.length st.length, .slice (some ⟨c, 0, none⟩) wl.length wl.length, .int .u64 (K : Int)] ∧ Lies spL W2 W2.heap.size (.slice (some ⟨b, 0, none⟩) st.length st.length) st ∧ Lies spL W2 W2.heap.size (.slice (some ⟨c, 0, none⟩) wl.length wl.length) wl := hf 11 (by omega)
                clear hf
                rw [h11]
                have HG2 := Lib.hid hG
                have H12 := Lib.hid h12
                have H13 := Lib.hid h13
                clear h11 h12 h13 hG
                simp only [List.drop_succ_cons, List.drop_zero]
                repeat (go_big_quiet_step (fail))
                refine wpQuiet_nil ?_
                rintro w' ⟨nq, rfl⟩
                go_wp2
                go_meet
                case rel => exact ⟨b, c, rfl, rfl, rfl, H12.out, H13.out, below_drewN HG2.out _⟩
          case rest =>
            obtain ⟨b, c, rfl, rfl, rfl, hl1, hl2, hb⟩ := hcut
            rename World => wp
            have HL1 := Lib.hid hl1
            have HBW := Lib.hid (thn (thn HB.out HBEL.out) hb)
            have q1 := fun (W : World) (h : Below wp.heap.size wp W) => ones_any wl K t (by omega) W _ _ (hl2.grow h)
            obtain ⟨wr', hwr'⟩ : ∃ x, wl ++ List.replicate (min K 100) (t, t) = x := ⟨_, rfl⟩
            have hwrl : wr'.length ≤ 130 := by rw [← hwr']; simp; omega
            simp only [hwr'] at q1
            have hwh := HWH.out
            rw [hwr'] at hwh
            obtain ⟨W0, hW0⟩ : ∃ x, wr' ++ st = x := ⟨_, rfl⟩
            have hW0l : W0.length ≤ 150 := by rw [← hW0]; simp; omega
            rw [hW0] at hwh
            have HWE := Lib.hid hW0
            have HTW := Lib.hid hwh
            have Q1 := Lib.hid (q1 wp (Below.refl _ _))
            clear q1 hwr' hwh hW0 hl1 hl2 hb HWH HP HOWN HNIL HCAM HS1
            go_wp2_with (first
              | (go_at_call 18; (with_reducible refine Q1.out.mono ?_); rintro e w2 ⟨v2, rfl, o2, hb2⟩; have HO2 := Lib.hid o2; have HB2 := Lib.hid hb2; obtain ⟨A2, c2, rfl, _, _⟩ := own_form o2; clear o2 hb2)
              | (at_builtin; refine wpList_app2 33 _ 16 info_sp Try.underlying22 rfl (by decide) (by decide) _ rfl _ _ rfl wp.heap.size _ _ wr' st _ rfl HO2.out rfl (HL1.out.grow HB2.out) (sp_one _) (by omega) HB2.out.size ?_; intro v' w3 ho3 hg3 hq3; rw [HWE.out] at ho3; replace ho3 : Own w3 wp.heap.size v' W0 := ho3; obtain ⟨A3, c3, rfl, _, _⟩ := own_form ho3; have HO3 := Lib.hid (Lies.of_own (L := spL) ho3); have HB3 := Lib.hid (HB2.out.grown hg3 HB2.out.size (fun k hk => (HO2.out.lt k hk).1)); clear ho3 hg3 hq3))
            have HBF := Lib.hid (thn HBW.out HB3.out)
            clear HO2 HB2 HB3 HBW HL1 Q1
            go_loopw [18] (fun i wr => ∃ i' : Nat, i = .int .i64 i' ∧ i' ≤ W0.length ∧ Below w3.heap.size w3 wr) (fun i _ => W0.length - (intOf i).toNat)
            case atStart => exact ⟨0, rfl, Nat.zero_le _, Below.refl _ _⟩
            case round =>
              obtain ⟨i, rfl, hi, hbel⟩ := hrel
              have HBI := Lib.hid hbel
              by_cases hlt : i < W0.length
              · obtain ⟨b3, o3, rfl, hb3, _, hcell⟩ := sp_at (HO3.out.grow hbel) (by omega)
                obtain ⟨p0, p1⟩ := hcell i hlt
                have hx := HTW.out.at i hlt
                rcases Nat.eq_zero_or_pos i with h0 | h0
                · subst h0
                  generalize W0[0] = x at *
                  have d2 : decide (x.2 < x.1) = false := by simp; omega
                  simp only [Nat.zero_mul, Nat.add_zero] at p0 p1
                  clear hcell hbel hx
                  go_upto_region 19 with (fail)
                  go_quiet (fail)
                  go_wp2
                  exact ⟨⟨1, rfl, hlt, below_drewN HBI.out _⟩, by simp [intOf]; omega⟩
                · obtain ⟨i', rfl⟩ : ∃ i', i = i' + 1 := ⟨i - 1, by omega⟩
                  obtain ⟨_, p2⟩ := hcell i' (by omega)
                  have hy := HTW.out.next i' hlt
                  generalize W0[i' + 1] = x at *
                  generalize W0[i'] = y at *
                  have d2 : decide (x.2 < x.1) = false := by simp; omega
                  have d3 : decide (x.1 < y.2) = false := by simp; omega
                  have t1 : ((i' + 1 : Nat) : Int) - 1 = i' := by omega
                  clear hcell hbel hx hy
                  go_upto_region 19 with (fail)
                  go_quiet (fail)
                  go_wp2
                  exact ⟨⟨i' + 1 + 1, by go_num, hlt, below_drewN HBI.out _⟩, by simp [intOf]; omega⟩
              · clear hbel
                go_wp2
                go_ret
                exact ⟨rfl, thn HBF.out HBI.out⟩
  · have hd : (40 : Int) < len0 := by omega
    go_enter Try.func7, Try.ntmps7
    go_wp2_with (go_at_call 8; refine (awake_any _).mono ?_; rintro e wn ⟨rfl, hn⟩; have hbx := box_block hn; have hlt := lt_of hbx; have s0 : wn.cell? ⟨w.heap.size, 0, none⟩ = some (.int .u8 n0) := (by simp [World.cell?, hbx]); have s1 : wn.cell? ⟨w.heap.size, 1, none⟩ = some (.int .u8 n1) := (by simp [World.cell?, hbx]); have s2 : wn.cell? ⟨w.heap.size, 2, none⟩ = some (.int .u8 n2) := (by simp [World.cell?, hbx]); have HB := Lib.hid (box_below hn); clear hbx hn)
    go_ret
    exact ⟨rfl, HB.out⟩

set_option maxRecDepth 100000 in
theorem lifted (os : Os) (started : os.Started) (H : Type) (enc : TypeId × Value → H) :
    ReturnsInHanded {} Try.checked os 7 .any (Rows.levelOrderSpec.pre6 enc Try.prog Try.f7 Rows.levelOrderRow.domain false) (Rows.levelOrderSpec.post enc Try.prog Try.f7 false true false false) := by
  refine returnsInHanded_of_change (C := Try.checked) own started (by kernel_rfl) Try.func7
    (ChangeSpec.witness6 (enc := enc) (C := Try.checked) false ⟨#[], #[.slice none 0 0, .int .u8 0, .agg #[.int .u8 0, .int .u8 0, .int .u8 0]], []⟩ 8 (by kernel_rfl) (by kernel_rfl) (by kernel_rfl) (by kernel_rfl)) ?_
  intro W base args ds gs before hval0 hW hcnd _
  have hval : ∀ (j : Nat) t v, Try.f7.params[j]? = some t → args[j]? = some v → Value.okWide Try.prog W .any base t v := hval0
  have hW' := hW
  obtain ⟨p, q, hA0, hV, rfl, hfz, hnd⟩ := hW
  have hA : DataW.TrodAll enc Try.prog W 0 (fun _ => true) true Try.f7.params.toList args.toList ds p := hA0
  rw [Try.params7] at hA hval
  obtain ⟨v0, vs0, d0, ds0, p0, q0, hargs, rfl, rfl, h0, r0⟩ := trodAll_cons hA
  obtain ⟨v1, vs1, d1, ds1, p1, q1, rfl, rfl, rfl, h1, r1⟩ := trodAll_cons r0
  obtain ⟨v2, vs2, d2, ds2, p2, q2, rfl, rfl, rfl, h2, r2⟩ := trodAll_cons r1
  obtain ⟨rfl, rfl, rfl⟩ := trodAll_nil r2
  obtain rfl : args = #[v0, v1, v2] := by cases args; simp_all
  obtain ⟨rfl, rfl⟩ := trodVars_none hV
  obtain ⟨a0, len0, cap0, rfl⟩ := okWide_slice Try.underlying42 (hval 0 42 v0 rfl rfl)
  have k0 := h0
  have lt0 : ∀ x ∈ p0, x.block < W.heap.size := by obtain ⟨m, hm⟩ := k0; exact DataW.trod_lt m _ _ _ hm
  obtain ⟨z0, w0⟩ : ∃ zs, IsRow .u8 W a0 len0 cap0 zs := by
    obtain ⟨fuel, hf⟩ := h0
    rcases open_ints Try.underlying42 Try.underlying5 (by kernel_rfl) hf with ⟨hcs, _⟩ | ⟨x, l, c, zs, hcs, _, hl, hm, hz, _, hcell, hwz⟩
    · simp [Value.cells] at hcs
      obtain ⟨rfl, rfl, rfl⟩ := hcs
      exact ⟨[], .inl ⟨rfl, rfl, rfl, rfl⟩⟩
    · simp [Value.cells] at hcs
      obtain ⟨rfl, rfl, rfl⟩ := hcs
      exact ⟨zs, .inr ⟨_, rfl, hl, hm, by simpa using hz, hcell, hwz⟩⟩
  obtain ⟨a1, rfl, rfl, rfl, w1⟩ := open_int Try.underlying5 (hval 1 5 v1 rfl rfl) h1
  have k2 := h2
  have lt2 : ∀ x ∈ p2, x.block < W.heap.size := by obtain ⟨m, hm⟩ := k2; exact DataW.trod_lt m _ _ _ hm
  obtain ⟨c2, rfl, fit2⟩ := Op.open_flat (f := 9) (ks := [.u8, .u8, .u8]) (by kernel_rfl) (by kernel_rfl) (hval 2 31 v2 rfl rfl) h2
  obtain ⟨a2_0, a2_1, a2_2, rfl, w2_0, w2_1, w2_2⟩ := fit2_of fit2
  clear hA0 hval0
  refine (walk a0 len0 cap0 z0 a1 a2_0 a2_1 a2_2 W w0 w1 w2_0 w2_1 w2_2).mono fun e W' ⟨he, bel⟩ => ?_
  subst he
  exact ⟨_, rfl, _, _, _, [], _, [], hW', trodAll_mk1 (shut_bool Try.underlying4 _), (trodAll_cons_mk (Below.trod laidOut (by kernel_rfl) (of_decide_eq_true (by kernel_rfl)) k0 bel lt0) (trodAll_cons_mk (shut_int Try.underlying5 w1) (trodAll_cons_mk (Below.trod laidOut (by kernel_rfl) (of_decide_eq_true (by kernel_rfl)) k2 bel lt2) trodAll_mk0))), rfl, bel.frame _, fun h => by cases h⟩

theorem over : Rows.levelOrderRow.holds Try.pinned (OpenSpec.ofChange Rows.levelOrderSpec) :=
  OpenClaim.holds_of_wide 7 Try.f7 rfl rfl rfl rfl rfl rfl rfl ⟨rfl, rfl, rfl, rfl, rfl⟩ rfl rfl rfl rfl rfl (by kernel_rfl) Try.func7 (by kernel_rfl)
    (of_decide_eq_true (by kernel_rfl)) (by unfold Func.isWrapper; first | (rw [if_pos (by decide +kernel)]; kernel_rfl) | (rw [if_neg (by decide +kernel)]; exact ⟨rfl, rfl⟩))
    (fun os started H enc _ => lifted os started H enc)

/-- The statement. -/
theorem proved : Rows.LevelOrderSaid := over
#print axioms proved
end Go.Proofs.Ytdejljncodpkeaa.levelOrder
