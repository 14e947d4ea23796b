/- A region that draws its order, whose operations only read, and whose callees read, and may make memory: walked once, in the order of the text, by contracts that say 'Below'. · The contracts of the document's Within, Sum and In. · The contracts of the document's place and Put. · The contracts of the document's Keys and Items. -/
import Derived.Deep.QuietTactic
import Derived.BigQuiet
import Derived.Below
import Derived.Test.YthncmjimfkbofaaJ02
import Derived.Test.YthncmjimfkbofaaJ15
import Derived.Test.YthncmjimfkbofaaJ11
import Derived.WalkSpells
import Derived.Test.YthncmjimfkbofaaJ14
section
/- A region that draws its order, whose operations only read, and whose callees read, and may make memory: walked once, in the order of the text, by contracts that say 'Below'. -/
namespace Go.Proofs.Rw
open Go Go.RowKit

/-- A world that is as w was below. -/
structure BelowBy (w : World) where
  w' : World
  h : Below w.heap.size w w'
instance {w : World} : Inhabited (BelowBy w) := ⟨⟨w, Below.refl _ w⟩⟩
theorem wp_region_below {P : Program} {id : Nat} {Q : Exit → Act → World → Prop} {a : Act} {w : World} {l : List Oper} (hm : P.follows .mixedOrders = true) (hB : Region.lexB .any l.toArray = true)
    (h : wpQuiet P l.toArray (fun w' => ∃ p : BelowBy w, w' = p.w') (fun a' => ∀ w', (∃ p : BelowBy w, w' = p.w') → Q .normal a' w') l a) : (Code.region id l.toArray true).wp P Q a w :=
  wp_region_quiet (C := fun w' => ∃ p : BelowBy w, w' = p.w') hm hB ⟨⟨w.drew, (Below.refl _ w).drew⟩, rfl⟩ (by simpa using h)
/-- A callee's contract, met in a world of the class. -/
theorem below_of {P : Program} {f : FuncId} {args : Array Value} {w : World} {p : BelowBy w} {v : Value} (h : Calls P f args p.w' fun e w' => e = .returned v ∧ Below p.w'.heap.size p.w' w') : Calls P f args p.w' fun e w'' => e = .returned v ∧ ∃ p' : BelowBy w, w'' = p'.w' :=
  h.mono fun _ _ ⟨he, hb⟩ => ⟨he, ⟨_, p.h.trans (hb.mono p.h.size)⟩, rfl⟩
/-- A cell of an old block, in every world of the class. -/
theorem cell_below {w : World} {b i : Nat} {v : Value} (hb : b < w.heap.size) (h : w.cell? ⟨b, i, none⟩ = some v) (p : BelowBy w) : p.w'.cell? ⟨b, i, none⟩ = some v := (p.h.cell (p := ⟨b, i, none⟩) hb).trans h
end Go.Proofs.Rw
end
section
/- The contracts of the document's Within, Sum and In. -/
namespace Go.Proofs.Sc
open Go Go.Proofs.Lh
theorem take_sum {q : Ev → Bool} {l : List Ev} {j : Nat} (hj : j < l.length) : sumP q (l.take (j + 1)) = sumP q (l.take j) + if q l[j] then l[j].2.2 else 0 := by
  rw [List.take_succ_eq_append_getElem hj, sumP_snoc]
end Go.Proofs.Sc
namespace Go.Proofs.Ythncmjimfkbofaa
set_option linter.unusedVariables false
open Go.RowKit Go.Shelf Go.Proofs.Rw Go.Proofs.Lh Go.Proofs.Bu Go.Proofs.Sc Go.Proofs.Wm Go.Proofs.Rf Go.Maps

theorem rwithin_any (e : Ev) (t s : Nat) (ht : t < 18446744073709551616) (w : World) :
    Calls Try.prog 42 #[evS e, .int .u64 (t : Int), .int .u64 (s : Int)] w fun x w' => x = .returned (.bool (inB t s e)) ∧ Below w.heap.size w w' := by
  obtain ⟨a, b, c⟩ := e
  try dsimp only
  obtain ⟨W1, hW1⟩ : ∃ W, w.alloc (.cells #[.int .u64 (a : Int), .int .u64 (b : Int), .int .u64 (c : Int)] 41) = W := ⟨_, rfl⟩
  have p1 : W1.heap[w.heap.size]? = some (.cells #[.int .u64 (a : Int), .int .u64 (b : Int), .int .u64 (c : Int)] 41) := by rw [← hW1]; exact heap_alloc_new w _
  have HB := Lib.hid (show Below w.heap.size w W1 by rw [← hW1]; exact (Below.refl _ w).alloc (Nat.le_refl _) _)
  have HW1 := Lib.hid hW1
  have q0 : W1.cell? ⟨w.heap.size, 0, none⟩ = some (.int .u64 (a : Int)) := by simp [World.cell?, p1]
  clear p1 hW1
  by_cases h1 : a ≤ t
  · have h1d : decide ((a : Int) ≤ (t : Int)) = true := by simpa using h1
    by_cases h2 : t < s
    · have h2d : decide ((t : Int) < (s : Int)) = true := by simpa using h2
      have e : inB t s (a, b, c) = true := by unfold inB; rw [decide_eq_true_iff]; dsimp only; omega
      rw [e]
      clear e
      go_enter Try.func42, Try.ntmps42
      go_upto_region 1 with (fail)
      rw [HW1.out]
      go_wp2
      go_ret
      exact ⟨rfl, HB.out⟩
    · have h2d : decide ((t : Int) < (s : Int)) = false := by simp; omega
      obtain ⟨d, hd⟩ : ∃ d : Nat, (t : Int) - (s : Int) = (d : Int) := ⟨t - s, by omega⟩
      have b1 : (d : Int) ≤ 18446744073709551615 := by omega
      have e : inB t s (a, b, c) = decide (d < a) := by unfold inB; rw [decide_eq_decide]; dsimp only; omega
      rw [e]
      clear e
      obtain ⟨z, hz⟩ : ∃ z, decide (d < a) = z := ⟨_, rfl⟩
      rw [hz]
      cases z
      all_goals
        go_enter Try.func42, Try.ntmps42
        go_upto_region 1 with (fail)
        rw [HW1.out]
        go_wp2
        go_ret
        exact ⟨rfl, HB.out⟩
  · have h1d : decide ((a : Int) ≤ (t : Int)) = false := by simp; omega
    have e : inB t s (a, b, c) = false := by unfold inB; rw [decide_eq_false_iff_not]; dsimp only; omega
    rw [e]
    clear e
    go_enter Try.func42, Try.ntmps42
    go_upto_region 1 with (fail)
    rw [HW1.out]
    go_wp2
    go_ret
    exact ⟨rfl, HB.out⟩

set_option maxRecDepth 100000 in
set_option maxHeartbeats 4000000 in
theorem rSum_any (l : List Ev) (hl : l.length ≤ 1000000) (t s : Nat) (ht : t < 18446744073709551616) (w : World) (A : Option Addr) (c : Nat) (h : Lies evL w w.heap.size (.slice A l.length c) l) :
    Calls Try.prog 20 #[.slice A l.length c, .int .u64 (t : Int), .int .u64 (s : Int)] w fun e w' => e = .returned (.int .u64 ((sumP (inB t s) l % M64 : Nat) : Int)) ∧ Below w.heap.size w w' := by
  have hw1 := fun e W => rwithin_any e t s ht W
  obtain ⟨N, hN⟩ : ∃ N, l.length = N := ⟨_, rfl⟩
  obtain ⟨p, hp⟩ : ∃ p, inB t s = p := ⟨_, rfl⟩
  rw [hN] at h hl ⊢
  rw [hp] at hw1 ⊢
  have HN := Lib.hid hN
  have HL := Lib.hid h
  have H1 := Lib.hid hw1
  clear hw1 h hN hp ht
  go_enter Try.func20, Try.ntmps20
  go_wp2
  go_loopw [7, 8] (fun s7 s8 wr => ∃ j : Nat, s8 = .int .i64 (j : Int) ∧ j ≤ N ∧ s7 = .int .u64 ((sumP p (l.take j) % M64 : Nat) : Int) ∧ Hid (Below w.heap.size w wr)) (fun _ s8 _ => N - (intOf s8).toNat)
  case atStart => exact ⟨0, rfl, Nat.zero_le _, rfl, Lib.hid (Below.refl _ _)⟩
  case round =>
    obtain ⟨j, rfl, hj, rfl, HB⟩ := hrel
    by_cases hlt : j < N
    · have hjl : j < l.length := by rw [HN.out]; exact hlt
      obtain ⟨b, off, rfl, hb, -, hc⟩ := ev_at (HL.out.below HB.out) (by omega)
      obtain ⟨q0, q1, q2⟩ := hc j hjl
      have hbb : b < wr.heap.size := by have := HB.out.size; omega
      have hstep := take_sum (q := p) hjl
      obtain ⟨x, hx⟩ : ∃ x, l[j] = x := ⟨_, rfl⟩
      rw [hx] at q0 q1 q2 hstep
      have hcall := H1.out x wr
      obtain ⟨z, hz⟩ : ∃ z, sumP p (l.take j) % M64 = z := ⟨_, rfl⟩
      obtain ⟨qb, hqb⟩ : ∃ qb, p x = qb := ⟨_, rfl⟩
      rw [hqb] at hcall hstep
      rw [hz]
      have hadd := u64_add z x.2.2
      obtain ⟨ex, ey, ez⟩ := x
      dsimp only [evS] at hcall q0 q1 q2 hstep hadd
      have HC := Lib.hid hcall
      have HST := Lib.hid hstep
      have HADD := Lib.hid hadd
      clear hc hx hcall hstep hqb hjl hadd
      cases qb
      · go_wp2_with (go_at_call 42; (with_reducible refine HC.out.mono ?_); rintro r w1 ⟨rfl, hb1⟩; have HB1 := Lib.hid (HB.out.trans (hb1.mono HB.out.size)); clear hb1)
        have hs : sumP p (l.take (j + 1)) % M64 = z := by rw [HST.out, ← hz]; simp
        refine ⟨⟨j + 1, by go_num, hlt, by rw [hs], HB1⟩, by simp [intOf]; omega⟩
      · go_upto_region 6 with (go_at_call 42; (with_reducible refine HC.out.mono ?_); rintro r w1 ⟨rfl, hb1⟩; have HB1 := Lib.hid (HB.out.trans (hb1.mono HB.out.size)); have q2' := (hb1.cell (p := ⟨b, off + j * 3 + 2, none⟩) hbb).trans q2; clear hb1)
        clear q0 q1 q2
        have hs : IntKind.u64.wrap ((z : Int) + (ez : Int)) = ((sumP p (l.take (j + 1)) % M64 : Nat) : Int) := by
          rw [HADD.out, HST.out, ← hz]
          simp
        have HS := Lib.hid hs
        clear hs hz
        go_wp2
        refine ⟨⟨j + 1, by go_num, hlt, by rw [← HS.out], HB1⟩, by simp [intOf]; omega⟩
    · have e : j = N := by omega
      subst e
      have ht : l.take j = l := List.take_of_length_le (by rw [HN.out]; exact Nat.le_refl _)
      rw [ht]
      go_wp2
      go_ret
      exact ⟨rfl, HB.out⟩
end Go.Proofs.Ythncmjimfkbofaa
end
section
/- The contracts of the document's place and Put. -/
namespace Go.Proofs.Sc
open Go Go.Proofs.Lh
/-- Where a key stands, or would stand. -/
def plc (k : Nat) : List It → Nat
  | [] => 0
  | x :: l => if x.1 < k then plc k l + 1 else 0
theorem plc_le (k : Nat) : ∀ l : List It, plc k l ≤ l.length
  | [] => Nat.le_refl _
  | x :: l => by
    have := plc_le k l
    rw [plc]
    split <;> simp <;> omega
theorem plc_lt (k : Nat) : ∀ {l : List It} {i : Nat} (hi : i < l.length), i < plc k l → l[i].1 < k
  | x :: l, 0, _, h => by
    rw [plc] at h
    split at h
    · rename_i hx
      exact hx
    · cases h
  | x :: l, i + 1, hi, h => by
    rw [plc] at h
    split at h
    · exact plc_lt k (l := l) (i := i) (by simpa using hi) (by omega)
    · cases h
theorem plc_at (k : Nat) : ∀ {l : List It} (h : plc k l < l.length), ¬ l[plc k l].1 < k
  | x :: l, h => by
    by_cases hx : x.1 < k
    · have e : plc k (x :: l) = plc k l + 1 := by rw [plc, if_pos hx]
      have h2 : plc k l < l.length := by rw [e] at h; simpa using h
      have := plc_at k h2
      simp only [e, List.getElem_cons_succ]
      exact this
    · have e : plc k (x :: l) = 0 := by rw [plc, if_neg hx]
      simp only [e, List.getElem_cons_zero]
      exact hx
theorem put_hit (k w : Nat) : ∀ {l : List It} (h : plc k l < l.length), l[plc k l].1 = k → putI k w l = (l.take (plc k l) ++ [(k, (l[plc k l].2 + w) % M64)]) ++ l.drop (plc k l + 1)
  | x :: l, h, hk => by
    by_cases hx : x.1 < k
    · have e : plc k (x :: l) = plc k l + 1 := by rw [plc, if_pos hx]
      have h2 : plc k l < l.length := by rw [e] at h; simpa using h
      simp only [e, List.getElem_cons_succ] at hk ⊢
      rw [putI, if_pos hx, put_hit k w h2 hk]
      simp
    · have e : plc k (x :: l) = 0 := by rw [plc, if_neg hx]
      simp only [e, List.getElem_cons_zero] at hk ⊢
      rw [putI, if_neg hx, if_pos hk]
      simp
theorem put_miss (k w : Nat) : ∀ {l : List It}, (∀ h : plc k l < l.length, l[plc k l].1 ≠ k) → putI k w l = (l.take (plc k l) ++ [(k, w)]) ++ l.drop (plc k l)
  | [], _ => rfl
  | x :: l, hk => by
    by_cases hx : x.1 < k
    · have e : plc k (x :: l) = plc k l + 1 := by rw [plc, if_pos hx]
      rw [putI, if_pos hx, put_miss k w (l := l) (fun h2 => by
        have := hk (by rw [e]; simpa using h2)
        simp only [e, List.getElem_cons_succ] at this
        exact this), e]
      simp
    · have e : plc k (x :: l) = 0 := by rw [plc, if_neg hx]
      have h0 := hk (by rw [e]; simp)
      simp only [e, List.getElem_cons_zero] at h0
      rw [putI, if_neg hx, if_neg h0, e]
      simp
theorem put_len (k w : Nat) (l : List It) : (putI k w l).length ≤ l.length + 1 := by
  induction l with
  | nil => simp [putI]
  | cons x l ih =>
    rw [putI]
    split
    · simp; omega
    · split <;> simp
end Go.Proofs.Sc
namespace Go.Proofs.Ythncmjimfkbofaa
set_option linter.unusedVariables false
open Go.RowKit Go.Shelf Go.Proofs.Rw Go.Proofs.Lh Go.Proofs.Bu Go.Proofs.Sc Go.Proofs.Wm Go.Proofs.Rf Go.Maps

theorem info_itemR : (Try.prog.info? 59).map (fun i => (i.zero, i.size, i.bytes)) = some (some (.agg #[.int .u64 0, .int .u64 0]), 2, 16) := by kernel_rfl
theorem lit_itemR (W : World) (n : Nat) (hn : W.heap.size = n) (a b : Nat) : Lies spL (W.alloc (.cells #[.int .u64 a, .int .u64 b] 59)) (n + 1) (.slice (some ⟨n, 0, none⟩) 1 1) [(a, b)] := by
  subst hn
  refine ⟨_, 1, rfl, by simp, by unfold maxLen; omega, .inr ⟨W.heap.size, 0, by omega, rfl, fun j u hu => ?_⟩⟩
  rw [World.cell?_alloc_at _ _ _ _ rfl]
  simp only [Lay.cells, spL, List.flatMap_cons, List.flatMap_nil, List.append_nil] at hu
  simpa using hu
set_option maxRecDepth 100000 in
set_option maxHeartbeats 2000000 in
theorem rplace_any (m : List Sp) (hm : m.length ≤ 1000000) (k : Nat) (w : World) (A : Option Addr) (c : Nat) (h : Lies spL w w.heap.size (.slice A m.length c) m) :
    Calls Try.prog 70 #[.slice A m.length c, .int .u64 (k : Int)] w fun e w' => e = .returned (.int .i64 (plc k m : Int)) ∧ w' = w := by
  obtain ⟨N, hN⟩ : ∃ N, m.length = N := ⟨_, rfl⟩
  obtain ⟨P, hP⟩ : ∃ P, plc k m = P := ⟨_, rfl⟩
  have hPN : P ≤ N := by rw [← hP, ← hN]; exact plc_le k m
  have hlt := fun (i : Nat) (hi : i < m.length) (h : i < P) => plc_lt k hi (by rw [hP]; exact h)
  have hat := fun (hi : P < m.length) => (by
    have := plc_at k (l := m) (by rw [hP]; exact hi)
    simp only [hP] at this
    exact this : ¬ m[P].1 < k)
  rw [hN] at h hm ⊢
  rw [hP]
  have HN := Lib.hid hN
  have HL := Lib.hid h
  have HLT := Lib.hid hlt
  have HAT := Lib.hid hat
  clear h hN hP hlt hat
  go_enter Try.func70, Try.ntmps70
  go_wp2
  go_loopw [5] (fun s5 wr => ∃ j : Nat, s5 = .int .i64 (j : Int) ∧ j ≤ P ∧ wr = w) (fun s5 _ => N - (intOf s5).toNat)
  case atStart => exact ⟨0, rfl, Nat.zero_le _, rfl⟩
  case round =>
    obtain ⟨j, rfl, hj, rfl⟩ := hrel
    by_cases hjN : j < N
    · have hjl : j < m.length := by rw [HN.out]; exact hjN
      obtain ⟨b, off, rfl, hb, -, hc⟩ := sp_at HL.out (by omega)
      obtain ⟨q0, q1⟩ := hc j hjl
      have hd1 : decide ((j : Int) < (N : Int)) = true := by simpa using hjN
      by_cases hjP : j < P
      · have hx := HLT.out j hjl hjP
        have hd2 : decide (((m[j].1 : Nat) : Int) < (k : Int)) = true := by simpa using hx
        generalize m[j].1 = x at *
        clear hc
        go_wp2
        refine ⟨⟨j + 1, by go_num, by omega, trivial⟩, by simp [intOf]; omega⟩
      · have e : j = P := by omega
        subst e
        have hx := HAT.out hjl
        have hd2 : decide (((m[j].1 : Nat) : Int) < (k : Int)) = false := by simp; omega
        generalize m[j].1 = x at *
        clear hc
        go_wp2
        go_ret
        exact ⟨rfl, rfl⟩
    · have e : j = P := by omega
      have e2 : j = N := by omega
      subst e
      have hd1 : decide ((j : Int) < (N : Int)) = false := by simp; omega
      go_wp2
      go_ret
      exact ⟨rfl, rfl⟩

theorem ownT_lt {T : TypeId} {w : World} {base : Nat} {v : Value} {xs : List Sp} (h : OwnT T w base v xs) {b : Nat} (hb : v.ownBlock = some b) : base ≤ b := (h.lt b hb).1

set_option maxRecDepth 100000 in
set_option maxHeartbeats 4000000 in
theorem rPut_any (m : List Sp) (hm : m.length ≤ 1000000) (k x : Nat) (hx : x < 18446744073709551616) (base0 : Nat) (v : Value) (w : World) (h : OwnT 59 w base0 v m) :
    Calls Try.prog 49 #[v, .int .u64 (k : Int), .int .u64 (x : Int)] w fun e w' => ∃ v', e = .returned v' ∧ OwnT 59 w' w.heap.size v' (putI k x m) ∧ Below w.heap.size w w' := by
  obtain ⟨A, c, rfl, hNc, hcm⟩ := own_form h
  have hL := Lies.of_own h
  have hpl := rplace_any m hm k w A c hL
  have hple := plc_le k m
  have hhit := put_hit k x (l := m)
  have hmiss := put_miss k x (l := m)
  obtain ⟨P, hP⟩ : ∃ P, plc k m = P := ⟨_, rfl⟩
  obtain ⟨N, hN⟩ : ∃ N, m.length = N := ⟨_, rfl⟩
  simp only [hP] at hpl hple hhit hmiss
  have ht := hL.take P c (by omega) (by omega) hcm
  have hd1 := fun (h1 : P < N) A' hA' => hL.drop (P + 1) (by omega) A' hA'
  have hd0 := fun A' hA' => hL.drop P (by omega) A' hA'
  have htl : (m.take P).length = P := by simp; omega
  have hdl1 : (m.drop (P + 1)).length = N - (P + 1) := by simp [hN]
  have hdl0 : (m.drop P).length = N - P := by simp [hN]
  have hform : (A = none ∧ c = 0 ∧ m = []) ∨ ∃ g, A = some ⟨g, 0, none⟩ := by
    rcases h.2 with ⟨e, h0⟩ | ⟨g, cap, cur, e, _⟩
    · injection e with e1 e2 e3
      exact .inl ⟨e1, e3, List.eq_nil_of_length_eq_zero (by simpa using h0)⟩
    · injection e with e1 e2 e3
      exact .inr ⟨g, e1⟩
  rw [hN] at hpl hL hd1 hd0 hm hple hNc ⊢
  have O0 := Lib.hid (own_new (L := spL) w 59 #[] 0 w.heap.size [] rfl rfl (Nat.le_refl _) (by unfold maxLen; omega))
  have B0 := Lib.hid ((Below.refl _ w).alloc (Nat.le_refl _) (.cells #[] 59))
  have HT := Lib.hid ht
  have HPL := Lib.hid hpl
  rcases hform with ⟨rfl, rfl, rfl⟩ | ⟨g, rfl⟩
  · obtain rfl : N = 0 := by simpa using hN.symm
    obtain rfl : P = 0 := by omega
    have HM := Lib.hid (hmiss (fun h => absurd h (by simp)))
    have hnil : Lies spL w w.heap.size (.slice none 0 0) ([] : List Sp) := ⟨none, 0, rfl, by simp, by simp, .inl rfl⟩
    have HD := Lib.hid hnil
    have HT := Lib.hid hnil
    clear hdl0 hdl1 htl hple hNc hcm hm
    clear hnil hpl hhit hmiss hd0 hd1 ht hL h hN hP
    go_enter Try.func49, Try.ntmps49
    go_upto_region 3 with (first | (go_at_call 70; (with_reducible refine HPL.out.mono ?_); rintro r w1 ⟨rfl, hw1⟩; rw [hw1]; clear hw1 w1) | (at_builtin; refine wpList_app 59 _ 16 info_itemR Try.underlying55 rfl (by decide) (by decide) _ rfl _ _ rfl w.heap.size _ _ ([] : List Sp) (([] : List Sp)) _ rfl O0.out rfl (HT.out.below B0.out) (sp_one _) (by first | (simp; done) | (simp; omega)) (by have := B0.out.size; first | omega | (simp; omega)) ?_; intro v3 w3 ho hg; have HO3 := Lib.hid ho; have HB3 := Lib.hid ((B0.out).grown hg (by have := B0.out.size; first | omega | (simp; omega)) (fun q hq => (O0.out.lt q hq).1)); clear ho hg))
    have h30 : OwnT 59 w3 w.heap.size v3 [] := HO3.out
    clear HO3
    have HO3 := Lib.hid h30
    clear h30
    go_upto_region 7 with (fail)
    go_upto_region 8 with (at_builtin; refine wpList_app 59 _ 16 info_itemR Try.underlying55 rfl (by decide) (by decide) _ rfl _ _ rfl w.heap.size _ _ ([] : List Sp) ([(k, x)]) _ rfl (World.ownsRow.alloc HO3.out _) rfl (lit_itemR _ _ rfl k _) (sp_one _) (by first | (simp; done) | (simp; omega)) (by have := HB3.out.size; first | omega | (simp; omega)) ?_; intro v4 w4 ho hg; have HO4 := Lib.hid ho; have h1 := HB3.out.alloc HB3.out.size (.cells #[.int .u64 (k : Int), .int .u64 ((x) : Int)] 59); have h3 : ∀ q, v3.ownBlock = some q → w.heap.size ≤ q := (fun q hq => (HO3.out.lt q hq).1); have HB4 := Lib.hid (h1.grown hg h1.size h3); clear ho hg h1 h3)
    go_upto_region 9 with (at_builtin; refine wpList_app 59 _ 16 info_itemR Try.underlying55 rfl (by decide) (by decide) _ rfl _ _ rfl w.heap.size _ _ ([] ++ [(k, x)]) (([] : List Sp)) _ rfl HO4.out rfl (HD.out.below HB4.out) (sp_one _) (by first | (simp; done) | (simp; omega)) (by have := HB4.out.size; first | omega | (simp; omega)) ?_; intro v5 w5 ho hg; have HO5 := Lib.hid ho; have h3 : ∀ q, v4.ownBlock = some q → w.heap.size ≤ q := (fun q hq => (HO4.out.lt q hq).1); have HB5 := Lib.hid (HB4.out.grown hg HB4.out.size h3); clear ho hg h3)
    go_wp2
    go_ret
    refine ⟨v5, rfl, ?_, HB5.out⟩
    have ho := HO5.out
    rw [List.nil_append] at ho
    rw [HM.out]
    exact ho
  · by_cases hPN : P < N
    · have hPm : P < m.length := by omega
      obtain ⟨b, off, e, hb, -, hc⟩ := sp_at (xs := m) (by rw [← hN] at hL; exact hL) (by omega)
      cases e
      obtain ⟨q0, q1⟩ := hc P hPm
      rw [Nat.zero_add] at q0 q1
      have hg : g < w.heap.size := hb
      obtain ⟨y, hy⟩ : ∃ y, m[P].2 = y := ⟨_, rfl⟩
      obtain ⟨z, hz⟩ : ∃ z, m[P].1 = z := ⟨_, rfl⟩
      have HHIT := Lib.hid (hhit hPm)
      have HMISS := Lib.hid (fun (h : z ≠ k) => hmiss (fun _ => by rw [hz]; exact h))
      rw [hy, hz] at HHIT
      rw [hz] at q0
      rw [hy] at q1
      have QQ := Lib.hid (And.intro q0 q1)
      have hd1' := hd1 hPN
      clear q0 q1 hc hpl hhit hmiss hd1 ht hL h hP
      have hz1 : (P : Int) < (N : Int) := by omega
      by_cases hzk : z = k
      · subst hzk
        have HM := Lib.hid (HHIT.out rfl)
        have hadd := u64_add y x
        by_cases hPc : P + 1 = c
        · subst hPc
          obtain rfl : N = P + 1 := by omega
          have hd2 := hd1' (some ⟨g, 0, none⟩) (fun _ _ _ h => absurd h (by omega))
          simp only [Nat.sub_self] at hd2
          have HD := Lib.hid hd2
          clear hd2 hd1' hd0 hy hz HMISS HHIT
          go_enter Try.func49, Try.ntmps49
          go_upto_region 3 with (first | (go_at_call 70; (with_reducible refine HPL.out.mono ?_); rintro r w1 ⟨rfl, hw1⟩; rw [hw1]; clear hw1 w1) | (at_builtin; refine wpList_app 59 _ 16 info_itemR Try.underlying55 rfl (by decide) (by decide) _ rfl _ _ rfl w.heap.size _ _ ([] : List Sp) (m.take P) _ rfl O0.out rfl (HT.out.below B0.out) (sp_one _) (by first | (simp; done) | (simp; omega)) (by have := B0.out.size; first | omega | (simp; omega)) ?_; intro v3 w3 ho hg; have HO3 := Lib.hid ho; have HB3 := Lib.hid ((B0.out).grown hg (by have := B0.out.size; first | omega | (simp; omega)) (fun q hq => (O0.out.lt q hq).1)); clear ho hg))
          obtain ⟨q0, q1⟩ := QQ.out
          have q0 := (HB3.out.cell (p := ⟨g, P * 2, none⟩) hg).trans q0
          have q1 := (HB3.out.cell (p := ⟨g, P * 2 + 1, none⟩) hg).trans q1
          go_upto_region 4 with (fail)
          go_upto_region 5 with (at_builtin; refine wpList_app 59 _ 16 info_itemR Try.underlying55 rfl (by decide) (by decide) _ rfl _ _ rfl w.heap.size _ _ ([] ++ m.take P) ([(z, (y + x) % M64)]) _ rfl (World.ownsRow.alloc HO3.out _) rfl (lit_itemR _ _ rfl z _) (sp_one _) (by first | (simp; done) | (simp; omega)) (by have := HB3.out.size; first | omega | (simp; omega)) ?_; intro v4 w4 ho hg; have HO4 := Lib.hid ho; have h1 := HB3.out.alloc HB3.out.size (.cells #[.int .u64 (z : Int), .int .u64 ((((y + x) % M64 : Nat)) : Int)] 59); have h3 : ∀ q, v3.ownBlock = some q → w.heap.size ≤ q := (fun q hq => (HO3.out.lt q hq).1); have HB4 := Lib.hid (h1.grown hg h1.size h3); clear ho hg h1 h3)
          go_upto_region 6 with (at_builtin; refine wpList_app 59 _ 16 info_itemR Try.underlying55 rfl (by decide) (by decide) _ rfl _ _ rfl w.heap.size _ _ (([] ++ m.take P) ++ [(z, (y + x) % M64)]) (m.drop (P + 1)) _ rfl HO4.out rfl (HD.out.below HB4.out) (sp_one _) (by first | (simp; done) | (simp; omega)) (by have := HB4.out.size; first | omega | (simp; omega)) ?_; intro v5 w5 ho hg; have HO5 := Lib.hid ho; have h3 : ∀ q, v4.ownBlock = some q → w.heap.size ≤ q := (fun q hq => (HO4.out.lt q hq).1); have HB5 := Lib.hid (HB4.out.grown hg HB4.out.size h3); clear ho hg h3)
          go_wp2
          go_ret
          refine ⟨v5, rfl, ?_, HB5.out⟩
          have ho := HO5.out
          rw [List.nil_append] at ho
          rw [HM.out]
          exact ho
        · have hd2 := hd1' (some ⟨g, (P + 1) * 2, none⟩) (fun b off e h => by cases e; rw [Nat.zero_add]; rfl)
          have HD := Lib.hid hd2
          clear hd2 hd1' hd0 hy hz HMISS HHIT
          go_enter Try.func49, Try.ntmps49
          go_upto_region 3 with (first | (go_at_call 70; (with_reducible refine HPL.out.mono ?_); rintro r w1 ⟨rfl, hw1⟩; rw [hw1]; clear hw1 w1) | (at_builtin; refine wpList_app 59 _ 16 info_itemR Try.underlying55 rfl (by decide) (by decide) _ rfl _ _ rfl w.heap.size _ _ ([] : List Sp) (m.take P) _ rfl O0.out rfl (HT.out.below B0.out) (sp_one _) (by first | (simp; done) | (simp; omega)) (by have := B0.out.size; first | omega | (simp; omega)) ?_; intro v3 w3 ho hg; have HO3 := Lib.hid ho; have HB3 := Lib.hid ((B0.out).grown hg (by have := B0.out.size; first | omega | (simp; omega)) (fun q hq => (O0.out.lt q hq).1)); clear ho hg))
          obtain ⟨q0, q1⟩ := QQ.out
          have q0 := (HB3.out.cell (p := ⟨g, P * 2, none⟩) hg).trans q0
          have q1 := (HB3.out.cell (p := ⟨g, P * 2 + 1, none⟩) hg).trans q1
          go_upto_region 4 with (fail)
          go_upto_region 5 with (at_builtin; refine wpList_app 59 _ 16 info_itemR Try.underlying55 rfl (by decide) (by decide) _ rfl _ _ rfl w.heap.size _ _ ([] ++ m.take P) ([(z, (y + x) % M64)]) _ rfl (World.ownsRow.alloc HO3.out _) rfl (lit_itemR _ _ rfl z _) (sp_one _) (by first | (simp; done) | (simp; omega)) (by have := HB3.out.size; first | omega | (simp; omega)) ?_; intro v4 w4 ho hg; have HO4 := Lib.hid ho; have h1 := HB3.out.alloc HB3.out.size (.cells #[.int .u64 (z : Int), .int .u64 ((((y + x) % M64 : Nat)) : Int)] 59); have h3 : ∀ q, v3.ownBlock = some q → w.heap.size ≤ q := (fun q hq => (HO3.out.lt q hq).1); have HB4 := Lib.hid (h1.grown hg h1.size h3); clear ho hg h1 h3)
          go_upto_region 6 with (at_builtin; refine wpList_app 59 _ 16 info_itemR Try.underlying55 rfl (by decide) (by decide) _ rfl _ _ rfl w.heap.size _ _ (([] ++ m.take P) ++ [(z, (y + x) % M64)]) (m.drop (P + 1)) _ rfl HO4.out rfl (HD.out.below HB4.out) (sp_one _) (by first | (simp; done) | (simp; omega)) (by have := HB4.out.size; first | omega | (simp; omega)) ?_; intro v5 w5 ho hg; have HO5 := Lib.hid ho; have h3 : ∀ q, v4.ownBlock = some q → w.heap.size ≤ q := (fun q hq => (HO4.out.lt q hq).1); have HB5 := Lib.hid (HB4.out.grown hg HB4.out.size h3); clear ho hg h3)
          go_wp2
          go_ret
          refine ⟨v5, rfl, ?_, HB5.out⟩
          have ho := HO5.out
          rw [List.nil_append] at ho
          rw [HM.out]
          exact ho
      · have HM := Lib.hid (HMISS.out hzk)
        have hzb : ((z : Int) == (k : Int)) = false := by rw [beq_eq_false_iff_ne]; omega
        have hd2 := hd0 (some ⟨g, P * 2, none⟩) (fun b off e h => by cases e; rw [Nat.zero_add]; rfl)
        have HD := Lib.hid hd2
        clear hd2 hd1' hd0 hy hz HMISS HHIT
        go_enter Try.func49, Try.ntmps49
        go_upto_region 3 with (first | (go_at_call 70; (with_reducible refine HPL.out.mono ?_); rintro r w1 ⟨rfl, hw1⟩; rw [hw1]; clear hw1 w1) | (at_builtin; refine wpList_app 59 _ 16 info_itemR Try.underlying55 rfl (by decide) (by decide) _ rfl _ _ rfl w.heap.size _ _ ([] : List Sp) (m.take P) _ rfl O0.out rfl (HT.out.below B0.out) (sp_one _) (by first | (simp; done) | (simp; omega)) (by have := B0.out.size; first | omega | (simp; omega)) ?_; intro v3 w3 ho hg; have HO3 := Lib.hid ho; have HB3 := Lib.hid ((B0.out).grown hg (by have := B0.out.size; first | omega | (simp; omega)) (fun q hq => (O0.out.lt q hq).1)); clear ho hg))
        obtain ⟨q0, q1⟩ := QQ.out
        have q0 := (HB3.out.cell (p := ⟨g, P * 2, none⟩) hg).trans q0
        have q1 := (HB3.out.cell (p := ⟨g, P * 2 + 1, none⟩) hg).trans q1
        go_upto_region 7 with (fail)
        go_upto_region 8 with (at_builtin; refine wpList_app 59 _ 16 info_itemR Try.underlying55 rfl (by decide) (by decide) _ rfl _ _ rfl w.heap.size _ _ ([] ++ m.take P) ([(k, x)]) _ rfl (World.ownsRow.alloc HO3.out _) rfl (lit_itemR _ _ rfl k _) (sp_one _) (by first | (simp; done) | (simp; omega)) (by have := HB3.out.size; first | omega | (simp; omega)) ?_; intro v4 w4 ho hg; have HO4 := Lib.hid ho; have h1 := HB3.out.alloc HB3.out.size (.cells #[.int .u64 (k : Int), .int .u64 ((x) : Int)] 59); have h3 : ∀ q, v3.ownBlock = some q → w.heap.size ≤ q := (fun q hq => (HO3.out.lt q hq).1); have HB4 := Lib.hid (h1.grown hg h1.size h3); clear ho hg h1 h3)
        go_upto_region 9 with (at_builtin; refine wpList_app 59 _ 16 info_itemR Try.underlying55 rfl (by decide) (by decide) _ rfl _ _ rfl w.heap.size _ _ (([] ++ m.take P) ++ [(k, x)]) (m.drop P) _ rfl HO4.out rfl (HD.out.below HB4.out) (sp_one _) (by first | (simp; done) | (simp; omega)) (by have := HB4.out.size; first | omega | (simp; omega)) ?_; intro v5 w5 ho hg; have HO5 := Lib.hid ho; have h3 : ∀ q, v4.ownBlock = some q → w.heap.size ≤ q := (fun q hq => (HO4.out.lt q hq).1); have HB5 := Lib.hid (HB4.out.grown hg HB4.out.size h3); clear ho hg h3)
        go_wp2
        go_ret
        refine ⟨v5, rfl, ?_, HB5.out⟩
        have ho := HO5.out
        rw [List.nil_append] at ho
        rw [HM.out]
        exact ho
    · obtain rfl : P = N := by omega
      have HM := Lib.hid (hmiss (fun h => absurd h (by omega)))
      have hnl : ¬ ((P : Int) < (P : Int)) := by omega
      clear hpl hhit hmiss hd1 ht hL h hP
      by_cases hPc : P = c
      · subst hPc
        have hd2 := hd0 (some ⟨g, 0, none⟩) (fun _ _ _ h => absurd h (by omega))
        simp only [Nat.sub_self] at hd2
        have HD := Lib.hid hd2
        clear hd2 hd0
        go_enter Try.func49, Try.ntmps49
        go_upto_region 3 with (first | (go_at_call 70; (with_reducible refine HPL.out.mono ?_); rintro r w1 ⟨rfl, hw1⟩; rw [hw1]; clear hw1 w1) | (at_builtin; refine wpList_app 59 _ 16 info_itemR Try.underlying55 rfl (by decide) (by decide) _ rfl _ _ rfl w.heap.size _ _ ([] : List Sp) (m.take P) _ rfl O0.out rfl (HT.out.below B0.out) (sp_one _) (by first | (simp; done) | (simp; omega)) (by have := B0.out.size; first | omega | (simp; omega)) ?_; intro v3 w3 ho hg; have HO3 := Lib.hid ho; have HB3 := Lib.hid ((B0.out).grown hg (by have := B0.out.size; first | omega | (simp; omega)) (fun q hq => (O0.out.lt q hq).1)); clear ho hg))
        go_upto_region 7 with (fail)
        go_upto_region 8 with (at_builtin; refine wpList_app 59 _ 16 info_itemR Try.underlying55 rfl (by decide) (by decide) _ rfl _ _ rfl w.heap.size _ _ ([] ++ m.take P) ([(k, x)]) _ rfl (World.ownsRow.alloc HO3.out _) rfl (lit_itemR _ _ rfl k _) (sp_one _) (by first | (simp; done) | (simp; omega)) (by have := HB3.out.size; first | omega | (simp; omega)) ?_; intro v4 w4 ho hg; have HO4 := Lib.hid ho; have h1 := HB3.out.alloc HB3.out.size (.cells #[.int .u64 (k : Int), .int .u64 ((x) : Int)] 59); have h3 : ∀ q, v3.ownBlock = some q → w.heap.size ≤ q := (fun q hq => (HO3.out.lt q hq).1); have HB4 := Lib.hid (h1.grown hg h1.size h3); clear ho hg h1 h3)
        go_upto_region 9 with (at_builtin; refine wpList_app 59 _ 16 info_itemR Try.underlying55 rfl (by decide) (by decide) _ rfl _ _ rfl w.heap.size _ _ (([] ++ m.take P) ++ [(k, x)]) (m.drop P) _ rfl HO4.out rfl (HD.out.below HB4.out) (sp_one _) (by first | (simp; done) | (simp; omega)) (by have := HB4.out.size; first | omega | (simp; omega)) ?_; intro v5 w5 ho hg; have HO5 := Lib.hid ho; have h3 : ∀ q, v4.ownBlock = some q → w.heap.size ≤ q := (fun q hq => (HO4.out.lt q hq).1); have HB5 := Lib.hid (HB4.out.grown hg HB4.out.size h3); clear ho hg h3)
        go_wp2
        go_ret
        refine ⟨v5, rfl, ?_, HB5.out⟩
        have ho := HO5.out
        rw [List.nil_append] at ho
        rw [HM.out]
        exact ho
      · have hd2 := hd0 (some ⟨g, P * 2, none⟩) (fun b off e h => by cases e; rw [Nat.zero_add]; rfl)
        simp only [Nat.sub_self] at hd2
        have HD := Lib.hid hd2
        clear hd2 hd0
        go_enter Try.func49, Try.ntmps49
        go_upto_region 3 with (first | (go_at_call 70; (with_reducible refine HPL.out.mono ?_); rintro r w1 ⟨rfl, hw1⟩; rw [hw1]; clear hw1 w1) | (at_builtin; refine wpList_app 59 _ 16 info_itemR Try.underlying55 rfl (by decide) (by decide) _ rfl _ _ rfl w.heap.size _ _ ([] : List Sp) (m.take P) _ rfl O0.out rfl (HT.out.below B0.out) (sp_one _) (by first | (simp; done) | (simp; omega)) (by have := B0.out.size; first | omega | (simp; omega)) ?_; intro v3 w3 ho hg; have HO3 := Lib.hid ho; have HB3 := Lib.hid ((B0.out).grown hg (by have := B0.out.size; first | omega | (simp; omega)) (fun q hq => (O0.out.lt q hq).1)); clear ho hg))
        go_upto_region 7 with (fail)
        go_upto_region 8 with (at_builtin; refine wpList_app 59 _ 16 info_itemR Try.underlying55 rfl (by decide) (by decide) _ rfl _ _ rfl w.heap.size _ _ ([] ++ m.take P) ([(k, x)]) _ rfl (World.ownsRow.alloc HO3.out _) rfl (lit_itemR _ _ rfl k _) (sp_one _) (by first | (simp; done) | (simp; omega)) (by have := HB3.out.size; first | omega | (simp; omega)) ?_; intro v4 w4 ho hg; have HO4 := Lib.hid ho; have h1 := HB3.out.alloc HB3.out.size (.cells #[.int .u64 (k : Int), .int .u64 ((x) : Int)] 59); have h3 : ∀ q, v3.ownBlock = some q → w.heap.size ≤ q := (fun q hq => (HO3.out.lt q hq).1); have HB4 := Lib.hid (h1.grown hg h1.size h3); clear ho hg h1 h3)
        go_upto_region 9 with (at_builtin; refine wpList_app 59 _ 16 info_itemR Try.underlying55 rfl (by decide) (by decide) _ rfl _ _ rfl w.heap.size _ _ (([] ++ m.take P) ++ [(k, x)]) (m.drop P) _ rfl HO4.out rfl (HD.out.below HB4.out) (sp_one _) (by first | (simp; done) | (simp; omega)) (by have := HB4.out.size; first | omega | (simp; omega)) ?_; intro v5 w5 ho hg; have HO5 := Lib.hid ho; have h3 : ∀ q, v4.ownBlock = some q → w.heap.size ≤ q := (fun q hq => (HO4.out.lt q hq).1); have HB5 := Lib.hid (HB4.out.grown hg HB4.out.size h3); clear ho hg h3)
        go_wp2
        go_ret
        refine ⟨v5, rfl, ?_, HB5.out⟩
        have ho := HO5.out
        rw [List.nil_append] at ho
        rw [HM.out]
        exact ho
end Go.Proofs.Ythncmjimfkbofaa
end
section
/- The contracts of the document's Keys and Items. -/
namespace Go.Proofs.Sc
open Go Go.Proofs.Lh
theorem keys_take {p : Ev → Bool} {l : List Ev} {j : Nat} (hj : j < l.length) : keysI p (l.take (j + 1)) = if p l[j] then putI l[j].2.1 l[j].2.2 (keysI p (l.take j)) else keysI p (l.take j) := by
  rw [List.take_succ_eq_append_getElem hj, keys_snoc]
theorem keys_len (p : Ev → Bool) (l : List Ev) : ∀ j, j ≤ l.length → (keysI p (l.take j)).length ≤ j
  | 0, _ => by simp [keysI]
  | j + 1, h => by
    have ih := keys_len p l j (by omega)
    rw [keys_take (by omega)]
    split
    · have := put_len l[j].2.1 l[j].2.2 (keysI p (l.take j))
      omega
    · omega
end Go.Proofs.Sc
namespace Go.Proofs.Ythncmjimfkbofaa
set_option linter.unusedVariables false
open Go.RowKit Go.Shelf Go.Proofs.Rw Go.Proofs.Lh Go.Proofs.Bu Go.Proofs.Sc Go.Proofs.Wm Go.Proofs.Rf Go.Maps

theorem own_lower {base base' : Nat} {e : TypeId} {size n : Nat} {v : Value} {cs : List Value} {w : World} (h : w.ownsRow base e size v n cs) (hb : base' ≤ base) : w.ownsRow base' e size v n cs := by
  refine ⟨h.1, ?_⟩
  rcases h.2 with h1 | ⟨g, cap, cur, hv, hg, r⟩
  · exact .inl h1
  · exact .inr ⟨g, cap, cur, hv, by omega, r⟩

set_option maxRecDepth 100000 in
set_option maxHeartbeats 4000000 in
theorem rKeys_any (l : List Ev) (hl : l.length ≤ 1000000) (hv : U64s l) (f t : Nat) (w : World) (A : Option Addr) (c : Nat) (h : Lies evL w w.heap.size (.slice A l.length c) l) :
    Calls Try.prog 25 #[.slice A l.length c, .int .u64 (f : Int), .int .u64 (t : Int)] w fun e w' => ∃ A' c', e = .returned (.slice A' (keysI (ofT f t) l).length c') ∧ Lies spL w' w'.heap.size (.slice A' (keysI (ofT f t) l).length c') (keysI (ofT f t) l) ∧ Below w.heap.size w w' := by
  obtain ⟨p, hp⟩ : ∃ p, ofT f t = p := ⟨_, rfl⟩
  have hpe : ∀ e, p e = (decide (f ≤ e.1) && decide (e.1 ≤ t)) := fun e => by rw [← hp]; rfl
  have hkl := keys_len p l
  obtain ⟨N, hN⟩ : ∃ N, l.length = N := ⟨_, rfl⟩
  rw [hN] at h hl hkl ⊢
  rw [hp]
  have HN := Lib.hid hN
  have HL := Lib.hid h
  have HP := Lib.hid hpe
  have HV := Lib.hid hv
  have HKL := Lib.hid hkl
  clear h hN hp hpe hv hkl
  go_enter Try.func25, Try.ntmps25
  go_wp2
  go_loopw [7, 8] (fun s7 s8 wr => ∃ j : Nat, s8 = .int .i64 (j : Int) ∧ j ≤ N ∧ Hid (OwnT 59 wr w.heap.size s7 (keysI p (l.take j))) ∧ Hid (Below w.heap.size w wr)) (fun _ s8 _ => N - (intOf s8).toNat)
  case atStart => exact ⟨0, rfl, Nat.zero_le _, Lib.hid (World.ownsRow_nil _ _ _ _), Lib.hid (Below.refl _ _)⟩
  case round =>
    obtain ⟨j, rfl, hj, HO, HB⟩ := hrel
    by_cases hlt : j < N
    · have hjl : j < l.length := by rw [HN.out]; exact hlt
      obtain ⟨b, off, rfl, hb, -, hc⟩ := ev_at (HL.out.below HB.out) (by omega)
      obtain ⟨q0, q1, q2⟩ := hc j hjl
      have hbb : b < wr.heap.size := by have := HB.out.size; omega
      have hstep := keys_take (p := p) hjl
      have hmem := List.getElem_mem hjl
      obtain ⟨x, hx⟩ : ∃ x, l[j] = x := ⟨_, rfl⟩
      rw [hx] at q0 q1 q2 hstep hmem
      have hpx := HP.out x
      obtain ⟨_, _, hez⟩ := HV.out x hmem
      obtain ⟨ex, ey, ez⟩ := x
      dsimp only at q0 q1 q2 hstep hpx hez
      have hlen := HKL.out j hj
      have hput := fun (W2 : World) (hG : Grows wr W2) => (rPut_any (keysI p (l.take j)) (by omega) ey ez hez w.heap.size u7 W2 (own_below HO.out hG)).mono (R' := fun e w' => ∃ v', e = .returned v' ∧ OwnT 59 w' w.heap.size v' (putI ey ez (keysI p (l.take j))) ∧ Grows W2 w') fun e w' ⟨v', h1, h2, h3⟩ => ⟨v', h1, own_lower h2 (Nat.le_trans HB.out.size hG.size), h3⟩
      have HPUT := Lib.hid hput
      have HST0 := Lib.hid hstep
      have HPX := Lib.hid hpx
      have hltz : (j : Int) < (N : Int) := by omega
      have HLT := Lib.hid hltz
      clear hc hx hstep hpx hput hmem hjl hez hlen
      by_cases h1 : f ≤ ex
      · by_cases h2 : ex ≤ t
        · have HST := Lib.hid (show keysI p (l.take (j + 1)) = putI ey ez (keysI p (l.take j)) by rw [HST0.out, HPX.out]; simp [h1, h2])
          clear HST0 HPX
          go_upto_region 6 with (fail)
          clear hltz
          refine region_tail (fr := ?frA) 12 [31, 32, 33, 34, 35, 36, 37, 38, 39, 40, 41, 42] (fun i v W => match i with
              | 0 => v = u7
              | 1 => v = .slice (some ⟨b, off, none⟩) N c
              | 2 => v = .int .i64 (j : Int)
              | 3 => v = .pointer (some ⟨b, off + j * 3, none⟩)
              | 4 => v = .pointer (some ⟨b, off + j * 3 + 1, none⟩)
              | 5 => v = .int .u64 (ey : Int)
              | 6 => v = .slice (some ⟨b, off, none⟩) N c
              | 7 => v = .int .i64 (j : Int)
              | 8 => v = .pointer (some ⟨b, off + j * 3, none⟩)
              | 9 => v = .pointer (some ⟨b, off + j * 3 + 2, none⟩)
              | 10 => v = .int .u64 (ez : Int)
              | 11 => OwnT 59 W w.heap.size v (putI ey ez (keysI p (l.take j)))
              | _ => True) rfl ?hBA (by kernel_rfl) (by kernel_rfl) ?hfrA ?hFA ?hopA ?htailA
          case hBA => kernel_rfl
          case hfrA =>
            intro us
            simp only [putL]
            go_simp
            rfl
          case hFA =>
            intro i v W W' hG h
            match i with
            | 0 => exact h
            | 1 => exact h
            | 2 => exact h
            | 3 => exact h
            | 4 => exact h
            | 5 => exact h
            | 6 => exact h
            | 7 => exact h
            | 8 => exact h
            | 9 => exact h
            | 10 => exact h
            | 11 => exact own_below h hG
            | n + 12 => trivial
          case hopA =>
            intro i hi us W2 hG hd
            match i, hi with
            | 0, _ =>
              clear hd
              exact hop_value rfl rfl rfl (v := u7) (W' := W2) (by go_simp) (Grows.refl _) rfl
            | 1, _ =>
              clear hd
              exact hop_value rfl rfl rfl (v := .slice (some ⟨b, off, none⟩) N c) (W' := W2) (by go_simp) (Grows.refl _) rfl
            | 2, _ =>
              clear hd
              exact hop_value rfl rfl rfl (v := .int .i64 (j : Int)) (W' := W2) (by go_simp) (Grows.refl _) rfl
            | 3, _ =>
              have h1 : (us 1) = .slice (some ⟨b, off, none⟩) N c := hd 1 (by omega) (by kernel_rfl)
              have h2 : (us 2) = .int .i64 (j : Int) := hd 2 (by omega) (by kernel_rfl)
              clear hd
              have hltz := HLT.out
              exact hop_value rfl rfl rfl (v := .pointer (some ⟨b, off + j * 3, none⟩)) (W' := W2) (by go_simp) (Grows.refl _) rfl
            | 4, _ =>
              have h3 : (us 3) = .pointer (some ⟨b, off + j * 3, none⟩) := hd 3 (by omega) (by kernel_rfl)
              clear hd
              exact hop_value rfl rfl rfl (v := .pointer (some ⟨b, off + j * 3 + 1, none⟩)) (W' := W2) (by go_simp) (Grows.refl _) rfl
            | 5, _ =>
              have h4 : (us 4) = .pointer (some ⟨b, off + j * 3 + 1, none⟩) := hd 4 (by omega) (by kernel_rfl)
              clear hd
              have c0 := (hG.cell (b := b) (o := off + j * 3 + 1) hbb).trans q1
              exact hop_value rfl rfl rfl (v := .int .u64 (ey : Int)) (W' := W2) (by go_simp) (Grows.refl _) rfl
            | 6, _ =>
              clear hd
              exact hop_value rfl rfl rfl (v := .slice (some ⟨b, off, none⟩) N c) (W' := W2) (by go_simp) (Grows.refl _) rfl
            | 7, _ =>
              clear hd
              exact hop_value rfl rfl rfl (v := .int .i64 (j : Int)) (W' := W2) (by go_simp) (Grows.refl _) rfl
            | 8, _ =>
              have h6 : (us 6) = .slice (some ⟨b, off, none⟩) N c := hd 6 (by omega) (by kernel_rfl)
              have h7 : (us 7) = .int .i64 (j : Int) := hd 7 (by omega) (by kernel_rfl)
              clear hd
              have hltz := HLT.out
              exact hop_value rfl rfl rfl (v := .pointer (some ⟨b, off + j * 3, none⟩)) (W' := W2) (by go_simp) (Grows.refl _) rfl
            | 9, _ =>
              have h8 : (us 8) = .pointer (some ⟨b, off + j * 3, none⟩) := hd 8 (by omega) (by kernel_rfl)
              clear hd
              exact hop_value rfl rfl rfl (v := .pointer (some ⟨b, off + j * 3 + 2, none⟩)) (W' := W2) (by go_simp) (Grows.refl _) rfl
            | 10, _ =>
              have h9 : (us 9) = .pointer (some ⟨b, off + j * 3 + 2, none⟩) := hd 9 (by omega) (by kernel_rfl)
              clear hd
              have c0 := (hG.cell (b := b) (o := off + j * 3 + 2) hbb).trans q2
              exact hop_value rfl rfl rfl (v := .int .u64 (ez : Int)) (W' := W2) (by go_simp) (Grows.refl _) rfl
            | 11, _ =>
              have h0 : (us 0) = u7 := hd 0 (by omega) (by kernel_rfl)
              have h5 : (us 5) = .int .u64 (ey : Int) := hd 5 (by omega) (by kernel_rfl)
              have h10 : (us 10) = .int .u64 (ez : Int) := hd 10 (by omega) (by kernel_rfl)
              clear hd
              refine hop_call rfl rfl rfl (f := 49) (args := #[u7, .int .u64 (ey : Int), .int .u64 (ez : Int)]) (by go_simp) ?_
              exact (HPUT.out W2 hG).mono fun _ _ ⟨v', h1, h2, h3⟩ => ⟨v', h1, h3, h2⟩
            | d + 12, h => exact absurd h (by omega)
          case htailA =>
            intro us W2 hG hf
            have h11 : OwnT 59 W2 w.heap.size (us 11) (putI ey ez (keysI p (l.take j))) := hf 11 (by omega)
            clear hf
            have hB2 : Below w.heap.size w W2 := HB.out.trans (hG.mono HB.out.size)
            have HB2 := Lib.hid hB2
            have H11 := Lib.hid h11
            clear h11 hG hB2
            simp only [List.drop_succ_cons, List.drop_zero]
            go_wp2
            go_roundw
            case rel => exact ⟨j + 1, by go_num, hlt, Lib.hid (by rw [HST.out]; exact H11.out), HB2⟩
            case measure => simp [intOf]; omega
        · have HST := Lib.hid (show keysI p (l.take (j + 1)) = keysI p (l.take j) by rw [HST0.out, HPX.out]; simp [h2])
          clear HST0 HPX
          go_wp2
          refine ⟨⟨j + 1, by go_num, hlt, Lib.hid (by rw [HST.out]; exact HO.out), HB⟩, by simp [intOf]; omega⟩
      · have HST := Lib.hid (show keysI p (l.take (j + 1)) = keysI p (l.take j) by rw [HST0.out, HPX.out]; simp [h1])
        have h1d : decide ((f : Int) ≤ (ex : Int)) = false := by simp; omega
        clear HST0 HPX
        go_wp2
        refine ⟨⟨j + 1, by go_num, hlt, Lib.hid (by rw [HST.out]; exact HO.out), HB⟩, by simp [intOf]; omega⟩
    · have e : j = N := by omega
      subst e
      have ht : l.take j = l := List.take_of_length_le (by rw [HN.out]; exact Nat.le_refl _)
      rw [ht] at HO
      obtain ⟨A1, c1, rfl, -, -⟩ := own_form HO.out
      go_wp2
      go_ret
      exact ⟨A1, c1, rfl, Lies.of_own HO.out, HB.out⟩

/-! ### Items -/

theorem item_type : Try.prog.underlying 59 = some (.struct (Try.prog.fieldsOf 59)) := by kernel_rfl
theorem item_held : Try.prog.stoodInHeld 59 = false := by kernel_rfl
theorem item_eq (d : Nat) (a b c e : Int) (w : World) : (Op.equalIn (d + 2) 59 (.agg #[.int .u64 a, .int .u64 b]) (.agg #[.int .u64 c, .int .u64 e])).run Try.prog w = .ok (a == c && b == e) w := by
  rw [run_equalIn_agg w (d + 1) _ _ _ item_type item_held]
  simp [go_sem, Try.underlying59, Try.underlying22]
  by_cases h1 : a = c <;> by_cases h2 : b = e <;> simp [h1, h2]
theorem item_eql (a b c e : Int) (w : World) : (binOp .eql 59 (.agg #[.int .u64 a, .int .u64 b]) (.agg #[.int .u64 c, .int .u64 e])).run Try.prog w = .ok (.bool (a == c && b == e)) w := by
  rw [run_eql_struct, show (10000 : Nat) = 9998 + 2 from rfl, item_eq]
  rfl
theorem item_neq (a b c e : Int) (w : World) : (binOp .neq 59 (.agg #[.int .u64 a, .int .u64 b]) (.agg #[.int .u64 c, .int .u64 e])).run Try.prog w = .ok (.bool (!(a == c && b == e))) w := by
  rw [run_neq_struct, show (10000 : Nat) = 9998 + 2 from rfl, item_eq]
  rfl
theorem item_guard (op : BinOp) (x y : Operand) (xs ys : Array Value) (w : World) : (eqGuard op 59 x y (.agg xs) (.agg ys)).run Try.prog w = .ok () w := run_eqGuard_agg w op _ x y xs ys (by kernel_rfl)
attribute [local go_sem] item_eql item_neq item_guard

set_option maxRecDepth 100000 in
set_option maxHeartbeats 4000000 in
theorem rItems_any (m : List Sp) (hm : m.length ≤ 1000000) (w : World) (A1 A2 : Option Addr) (c1 c2 : Nat) (h1 : Lies spL w w.heap.size (.slice A1 m.length c1) m) (h2 : Lies spL w w.heap.size (.slice A2 m.length c2) m) :
    Calls Try.prog 23 #[.slice A1 m.length c1, .slice A2 m.length c2] w fun e w' => e = .returned (.bool true) ∧ Below w.heap.size w w' := by
  obtain ⟨N, hN⟩ : ∃ N, m.length = N := ⟨_, rfl⟩
  rw [hN] at h1 h2 hm ⊢
  have HN := Lib.hid hN
  have H1 := Lib.hid h1
  have H2 := Lib.hid h2
  clear h1 h2 hN
  go_enter Try.func23, Try.ntmps23
  go_wp2
  go_loopw [5] (fun s5 wr => ∃ j : Nat, s5 = .int .i64 (j : Int) ∧ j ≤ N ∧ Hid (Below w.heap.size w wr)) (fun s5 _ => N - (intOf s5).toNat)
  case atStart => exact ⟨0, rfl, Nat.zero_le _, Lib.hid (Below.refl _ _)⟩
  case round =>
    obtain ⟨j, rfl, hj, HB⟩ := hrel
    by_cases hlt : j < N
    · have hjl : j < m.length := by rw [HN.out]; exact hlt
      obtain ⟨b1, o1, rfl, hb1, -, hc1⟩ := sp_at (H1.out.below HB.out) (by omega)
      obtain ⟨b2, o2, rfl, hb2, -, hc2⟩ := sp_at (H2.out.below HB.out) (by omega)
      obtain ⟨p0, p1⟩ := hc1 j hjl
      obtain ⟨q0, q1⟩ := hc2 j hjl
      have l1 : b1 < wr.heap.size := by have := HB.out.size; omega
      have l2 : b2 < wr.heap.size := by have := HB.out.size; omega
      generalize m[j] = x at *
      have P0 := fun p : BelowBy wr => cell_below l1 p0 p
      have P1 := fun p : BelowBy wr => cell_below l1 p1 p
      have Q0 := fun p : BelowBy wr => cell_below l2 q0 p
      have Q1 := fun p : BelowBy wr => cell_below l2 q1 p
      clear p0 p1 q0 q1 hc1 hc2 hjl l1 l2
      go_upto_region 6 with (fail)
      refine wp_region_below (by kernel_rfl) (by kernel_rfl) ?_
      repeat (go_big_quiet_step (fail))
      refine wpQuiet_nil ?_
      intro _ hw'
      obtain ⟨pq, hw''⟩ := hw'
      subst hw''
      have HB1 := Lib.hid (HB.out.trans (pq.h.mono HB.out.size))
      go_wp2
      refine ⟨⟨j + 1, by go_num, hlt, HB1⟩, by simp [intOf]; omega⟩
    · have e : j = N := by omega
      subst e
      go_wp2
      go_ret
      exact ⟨rfl, HB.out⟩
end Go.Proofs.Ythncmjimfkbofaa
end
