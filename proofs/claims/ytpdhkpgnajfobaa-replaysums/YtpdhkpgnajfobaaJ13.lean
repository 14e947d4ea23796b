/- The contracts of skylightref08.Within, and of estimate's within and its closure. · estimate's function that is ranged over: each bucket, with its units. · A range over a function whose variable of a round lies in memory: the law of such a loop. · The contracts of estimate.Parts and estimate.Of. -/
import Derived.Shelf.Abstract
import Derived.Shelf.RegionOpen
import Derived.WalkKit
import Derived.OwnWalkIn
import Derived.TacticsInMore
import Derived.LoopNIn
import Derived.LoopIn
import Derived.Deep.OwnRows
import Derived.Stop.RegionWithIn
import Derived.Test.YtpdhkpgnajfobaaJ09
import Derived.Test.YtpdhkpgnajfobaaJ12
import Derived.Test.YtpdhkpgnajfobaaJ05
import Derived.Test.YtpdhkpgnajfobaaJ01
import Derived.Laws.EntriesVeiled
section
/- The contracts of skylightref08.Within, and of estimate's within and its closure. -/
namespace Go.Proofs.Ytpdhkpgnajfobaa
open Go.RowKit Go.Shelf Go.Proofs.Rw Go.Proofs.Lh Go.Proofs.Rn

attribute [local go_sem] Oper.semAt_some

theorem rwith_any (t f v : Nat) (w : World) (hf : f < 18446744073709551616) : Calls Try.prog 70 #[.int .u64 (t : Int), .int .u64 (f : Int), .int .u64 (v : Int)] w fun e w' => e = .returned (.bool (withB f v t)) ∧ w = w' := by
  by_cases h0 : f < v
  · have h1 : decide (f < v) = true := by simpa using h0
    have e : withB f v t = true := by unfold withB; rw [decide_eq_true_iff]; omega
    rw [e]
    clear e
    go_enter Try.func70, Try.ntmps70
    go_wp2
    go_ret
    exact ⟨rfl, rfl⟩
  · have h1 : decide (f < v) = false := by simp; omega
    have b0 : (0 : Int) ≤ (f : Int) - (v : Int) := by omega
    obtain ⟨d, hd⟩ : ∃ d : Nat, (f : Int) - (v : Int) = (d : Int) := ⟨f - v, by omega⟩
    have b1 : (d : Int) ≤ 18446744073709551615 := by omega
    have e : withB f v t = decide (d < t) := by unfold withB; rw [decide_eq_decide]; omega
    rw [e]
    clear e
    obtain ⟨q, hq⟩ : ∃ q, decide (d < t) = q := ⟨_, rfl⟩
    rw [hq]
    cases q
    all_goals
      go_enter Try.func70, Try.ntmps70
      go_wp2
      go_ret
      exact ⟨rfl, rfl⟩

theorem with1_any (t f v : Nat) (hf : f < 18446744073709551616) (bs bt : Nat) (w : World) (c1 : w.cell? ⟨bs, 0, none⟩ = some (.int .u64 (v : Int))) (c2 : w.cell? ⟨bt, 0, none⟩ = some (.int .u64 (f : Int))) :
    Calls Try.prog 71 #[.int .u64 (t : Int), .pointer (some ⟨bs, 0, none⟩), .pointer (some ⟨bt, 0, none⟩)] w fun e w' => e = .returned (.bool (withB f v t)) ∧ w = w' := by
  by_cases h0 : f < v
  · have h1 : decide (f < v) = true := by simpa using h0
    have e : withB f v t = true := by unfold withB; rw [decide_eq_true_iff]; omega
    rw [e]
    clear e
    go_enter Try.func71, Try.ntmps71
    go_wp2
    go_ret
    exact ⟨rfl, rfl⟩
  · have h1 : decide (f < v) = false := by simp; omega
    have b0 : (0 : Int) ≤ (f : Int) - (v : Int) := by omega
    obtain ⟨d, hd⟩ : ∃ d : Nat, (f : Int) - (v : Int) = (d : Int) := ⟨f - v, by omega⟩
    have b1 : (d : Int) ≤ 18446744073709551615 := by omega
    have e : withB f v t = decide (d < t) := by unfold withB; rw [decide_eq_decide]; omega
    rw [e]
    clear e
    obtain ⟨q, hq⟩ : ∃ q, decide (d < t) = q := ⟨_, rfl⟩
    rw [hq]
    cases q
    all_goals
      go_enter Try.func71, Try.ntmps71
      go_wp2
      go_ret
      exact ⟨rfl, rfl⟩

theorem within_in (n : Nat) (f v : Int) (w : World) :
    CallsIn Fence.wide n Try.prog 42 #[.int .u64 f, .int .u64 v] w fun e w' => e = .returned (.func (.func 71) #[] #[.pointer (some ⟨w.heap.size + 1, 0, none⟩), .pointer (some ⟨w.heap.size, 0, none⟩)]) ∧
      w' = (w.alloc (.cells #[.int .u64 f] 41)).alloc (.cells #[.int .u64 v] 41) := by
  refine callsIn_of_wp Try.func42 rfl trivial ?_ rfl
  simp only [Try.ntmps42, List.size_toArray, List.length_cons, List.length_nil, Nat.reduceAdd, Nat.reduceSub, Array.replicate_succ, Array.replicate_zero, List.push_toArray, List.append_toArray, List.nil_append, List.cons_append]
  gi_wp2
  go_ret
  exact ⟨rfl, rfl⟩

theorem buckets_in (n : Nat) (k g : Int) (s : Value) (w : World) :
    CallsIn Fence.wide n Try.prog 43 #[hv k g s] w fun e w' => e = .returned (.func (.func 72) #[] #[.pointer (some ⟨w.heap.size, 0, none⟩)]) ∧
      w' = w.alloc (.cells #[.int .i64 k, .int .i64 g, s] 32) := by
  refine callsIn_of_wp Try.func43 rfl trivial ?_ rfl
  simp only [Try.ntmps43, List.size_toArray, List.length_cons, List.length_nil, Nat.reduceAdd, Nat.reduceSub, Array.replicate_succ, Array.replicate_zero, List.push_toArray, List.append_toArray, List.nil_append, List.cons_append]
  gi_wp2
  go_ret
  exact ⟨rfl, rfl⟩

end Go.Proofs.Ytpdhkpgnajfobaa
end
section
/- estimate's function that is ranged over: each bucket, with its units. -/
namespace Go.Proofs.Ytpdhkpgnajfobaa
open Go.RowKit Go.Shelf Go.Proofs.Rw Go.Proofs.Lh Go.Proofs.Rn

attribute [local go_sem] Oper.semAt_some

/-- What is handed over in a round: a bucket's units, and the bucket. -/
abbrev encB (x : Nat × Sp) : Array Value := #[.int .u64 ((2 ^ x.1 : Nat) : Int), .agg #[.int .u64 (x.2.1 : Int), .int .u64 (x.2.2 : Int)]]
def PxB (ls : Lv) (k : Nat) (x : Nat × Sp) (_ : World) : Prop := (bk 0 ls)[k]? = some x
theorem two_ways {e : Ending} {A B : Prop} (h : (e = .returned (.bool true) ∧ A) ∨ (e = .returned (.bool false) ∧ B)) : ∃ q : Bool, e = .returned (.bool q) ∧ (q = true → A) ∧ (q = false → B) := by
  rcases h with ⟨rfl, h⟩ | ⟨rfl, h⟩
  · exact ⟨true, rfl, fun _ => h, fun e => (by cases e)⟩
  · exact ⟨false, rfl, fun e => (by cases e), fun _ => h⟩

theorem unit_wrap {i : Nat} (h : i < 60) : IntKind.u64.wrap (2 ^ i) = ((2 ^ i : Nat) : Int) := by
  have h1 : 2 ^ i ≤ 2 ^ 60 := Nat.pow_le_pow_right (by omega) (by omega)
  have e : (2 : Int) ^ i = ((2 ^ i : Nat) : Int) := by simp
  rw [e]
  generalize 2 ^ i = m at *
  exact IntWalk.u64_in _ ⟨by omega, by omega⟩
theorem Kb.of_below {B : Nat} {W W' : World} (h : Below W.heap.size W W') (hB : B ≤ W.heap.size) : Kb B W W' := ⟨h.size, fun b hb => h.block b (by omega)⟩

set_option maxRecDepth 100000 in
set_option maxHeartbeats 1000000 in
theorem buckets1_in (n : Nat) (hn : 1 ≤ n) (B bx : Nat) (k g : Int) (ls : Lv) (hl : ls.length ≤ 60) (hlv : ∀ i, (lev ls i).length ≤ 1000000) (w : World) (hB : B ≤ w.heap.size) (A : Option Addr) (c : Nat) (h : Levs w B (.slice A ls.length c) ls)
    (hbx : w.heap[bx]? = some (.cells #[.int .i64 k, .int .i64 g, .slice A ls.length c] 32)) :
    SeqN Fence.wide n Try.prog 72 #[.pointer (some ⟨bx, 0, none⟩)] encB (PxB ls) (Kb B) (fun m => m = (bk 0 ls).length) w := by
  intro l J Jx W hW hJ hJx hY hJ0
  have hL := h.below (hW.mono hB)
  have hcell : W.cell? ⟨bx, 2, none⟩ = some (.slice A ls.length c) := by
    have e := (hW.block bx (lt_of hbx)).trans hbx
    simp [World.cell?, e]
  have hbl : bx < W.heap.size := Nat.lt_of_lt_of_le (lt_of hbx) hW.size
  obtain ⟨N, hN⟩ : ∃ N, ls.length = N := ⟨_, rfl⟩
  rw [hN] at hcell hl hL
  have HN := Lib.hid hN
  have HJ := Lib.hid hJ
  have HY := Lib.hid hY
  have HL := Lib.hid hL
  have HW := Lib.hid hW
  have HLV := Lib.hid hlv
  clear hJ hJx hY h hL hbx hN hW hlv
  refine callsIn_of_wp Try.func72 rfl trivial ?_ rfl
  simp only [Try.ntmps72, List.size_toArray, List.length_cons, List.length_nil, Nat.reduceAdd, Nat.reduceSub, Array.replicate_succ, Array.replicate_zero, List.push_toArray, List.append_toArray, List.nil_append, List.cons_append]
  gi_wp2
  gi_loopw [10] (fun p wr => ∃ i : Nat, p = .int .i64 i ∧ i ≤ N ∧ J (offB ls i) wr ∧ Kb B W wr) (fun p _ => N - (intOf p).toNat)
  case atStart => exact ⟨0, rfl, Nat.zero_le _, by rw [off_zero]; exact hJ0, Kb.refl _ _⟩
  case round =>
    obtain ⟨i, rfl, hle, hJs, hK⟩ := hrel
    have hsz : B ≤ wr.heap.size := Nat.le_trans hB (Nat.le_trans HW.out.size hK.size)
    by_cases hlt : i < N
    · have hil : i < ls.length := by rw [HN.out]; exact hlt
      have hLr : Levs wr B (.slice A N c) ls := HL.out.keep hK.block
      obtain ⟨b, off, rfl, hb, -, hc⟩ := hLr.at (by omega)
      obtain ⟨Ai, ci, q0, -, -, hLi⟩ := hc i hil
      have hbs : b < wr.heap.size := by omega
      have hos := off_succ hil
      have hget := fun (j : Nat) (hj : j < ls[i].length) => bk_get hil hj
      have hm6 := HLV.out i
      rw [lev_lt hil] at hm6
      obtain ⟨li, hli⟩ : ∃ l, ls[i] = l := ⟨_, rfl⟩
      have hget2 : ∀ (j : Nat) (hj : j < li.length), (bk 0 ls)[offB ls i + j]? = some (i, li[j]) := by
        subst hli
        exact hget
      rw [hli] at q0 hLi hos hm6
      obtain ⟨m, hm⟩ : ∃ m, li.length = m := ⟨_, rfl⟩
      rw [hm] at q0 hLi hos hm6
      have HGET := Lib.hid hget2
      have HOS := Lib.hid hos
      have HM := Lib.hid hm
      have HKK := Lib.hid hK
      have HLI := Lib.hid hLi
      obtain ⟨o, ho⟩ : ∃ o, offB ls i = o := ⟨_, rfl⟩
      rw [ho] at HGET HOS hJs
      clear hc hLi hLr hcell hJ0 hK hget hget2 hos hm hli hil ho
      rename World => wo
      gi_wp2
      gi_loopw [17] (fun p wr => ∃ j : Nat, p = .int .i64 j ∧ j ≤ m ∧ J (o + j) wr ∧ Kb B W wr) (fun p _ => m - (intOf p).toNat)
      case atStart => exact ⟨0, rfl, Nat.zero_le _, hJs, HKK.out⟩
      case round =>
        obtain ⟨j, rfl, hjle, hJr, hK⟩ := hrel
        by_cases hjt : j < m
        · have hjl : j < li.length := by rw [HM.out]; exact hjt
          have hsz2 : B ≤ wr.heap.size := Nat.le_trans hB (Nat.le_trans HW.out.size hK.size)
          have hLj : Lies spL wr B (.slice Ai m ci) li := HLI.out.keep fun b hb => (hK.block b hb).trans (HKK.out.block b hb).symm
          obtain ⟨b2, off2, rfl, hb2, -, hc2⟩ := sp_at hLj (by omega)
          obtain ⟨e0, e1⟩ := hc2 j hjl
          have hx := HGET.out j hjl
          obtain ⟨x, hxe⟩ : ∃ x, li[j] = x := ⟨_, rfl⟩
          rw [hxe] at hx e0 e1
          have lb2 : b2 < wr.heap.size := by omega
          have HKR := Lib.hid hK
          have HX := Lib.hid hx
          have hi60 : i < 60 := by omega
          clear hc2 hLj hx hxe hjl hK
          gi_wp2
          obtain ⟨W1, hW1⟩ : ∃ W', wr.alloc (.cells #[.int .u64 (x.1 : Int), .int .u64 (x.2 : Int)] 74) = W' := ⟨_, rfl⟩
          have hB1 : Below wr.heap.size wr W1 := by rw [← hW1]; exact (Below.refl _ wr).alloc (Nat.le_refl _) _
          have hp1 : W1.heap[wr.heap.size]? = some (.cells #[.int .u64 (x.1 : Int), .int .u64 (x.2 : Int)] 74) := by rw [← hW1]; exact heap_alloc_new wr _
          rw [hW1]
          obtain ⟨f0, f1, -, -⟩ := box2 hp1
          have lf := lt_of hp1
          have hJ1 : J (o + j) W1.drew := HJ.out _ _ _ hJr hB1.drew
          obtain ⟨fn, tmps, assign, body, hy, hR⟩ := HY.out (o + j) (i, x) W1.drew hJ1 HX.out
          have HR := Lib.hid hR
          have HB1 := Lib.hid hB1
          dsimp only [encB] at hy
          rw [← unit_wrap hi60] at hy
          clear hR hB1 hp1 hW1 hJ1 q0 e0 e1
          gi_region_with (refine HR.out.mono ?_; rintro e W3 h3; obtain ⟨q, rfl, h4, h5⟩ := two_ways h3; have H4 := Lib.hid h4; have H5 := Lib.hid h5; clear h3 h4 h5)
          all_goals
            cases q
            case false =>
              gi_wp2
              refine bodyPost_ret (results_none rfl _ _ _) rfl ?_
              exact ⟨⟨_, rfl⟩, .inr ⟨_, H5.out (by first | rfl | trivial)⟩⟩
            case true =>
              obtain ⟨hJ3, hk3⟩ := H4.out (by first | rfl | trivial)
              gi_wp2
              go_roundw
              case rel => exact ⟨j + 1, by go_num, hjt, hJ3, (HKR.out.trans (Kb.of_below HB1.out.drew hsz2)).trans hk3⟩
              case measure => simp [intOf]; omega
        · have e : j = m := by omega
          subst e
          rw [← HOS.out] at hJr
          gi_wp2
          go_roundw
          case rel => exact ⟨i + 1, by go_num, hlt, hJr, hK⟩
          case measure => simp [intOf]; omega
    · have e : i = N := by omega
      subst e
      have ef : offB ls i = (bk 0 ls).length := by rw [← off_all, HN.out]
      rw [ef] at hJs
      gi_wp2
      refine bodyPost_end (results_none rfl _ _ _) rfl ?_
      exact ⟨⟨_, rfl⟩, .inl ⟨_, rfl, hJs⟩⟩

end Go.Proofs.Ytpdhkpgnajfobaa
end
section
/- A range over a function whose variable of a round lies in memory: the law of such a loop. -/
namespace Go.Proofs.Rn
open Go Go.RowKit

variable {F : Fence} {n : Nat} {P : Program} {α : Type}

theorem range_m {g : Operand} {ps : Array Tmp} {assign body : Code} {Q : Exit → Act → World → Prop} {a : Act} {w : World}
    (hro : F.round = none) (h1 : 1 ≤ n) {gf : Nat} {lb : Array Value} (hg : a.eval g = .func (.func gf) #[] lb) (hFg : F.fn gf) (eg : ∀ args w, (callFunc gf args).run P w = .ok (.enter gf args) w)
    {enc : α → Array Value} {Px : Nat → α → World → Prop} {Kp : World → World → Prop} {S : Nat → Prop} {w0 : World} (hseq : SeqN F (n - 1) P gf lb enc Px Kp S w0)
    (hKt : ∀ {A B C : World}, Kp A B → Kp B C → Kp A C) (hKb : ∀ (W : World) (l : Nat) (o o' : Obj), w.heap.size ≤ l → W.heap[l]? = some o → o.isCells = false → Kp W (W.putObj l o'))
    (hPx : ∀ k x (W : World) (l : Nat) (o o' : Obj), w.heap.size ≤ l → W.heap[l]? = some o → o.isCells = false → Px k x W → Px k x (W.putObj l o'))
    (hb0 : Below w0.heap.size w0 w) (hps : ∀ x, (enc x).size = ps.size)
    (I : Nat → World → Prop) (Ix : Code → Nat → World → Prop) (hI : OwnFrom w.heap.size I) (hIx : ∀ c, OwnFrom w.heap.size (Ix c)) (h0 : I 0 w) (ob : α → Obj) (a1 : α → Nat → Act)
    (hKg : ∀ (W W' : World), w.heap.size ≤ W.heap.size → Below W.heap.size W W' → Kp W W') (hPg : ∀ k x (W W' : World), w.heap.size ≤ W.heap.size → Below W.heap.size W W' → Px k x W → Px k x W')
    (hassign : ∀ (l : Nat) (x : α) (W : World) (K : Act → World → Prop), K (a1 x W.heap.size) (W.alloc (ob x)) →
      assign.wpIn (F.inRound l) (n - 1 - 1) P (Exit.then K (fun _ _ _ => False)) { tmps := (ps.zip (enc x)).foldl (fun t (p, v) => t.setIfInBounds p v) a.tmps, defers := [] } W)
    (hbody : ∀ (l k : Nat) (x : α) (b : Nat) (W : World), I k W → Px k x W → w.heap.size ≤ b → W.heap[b]? = some (ob x) → body.wpIn (F.inRound l) (n - 1 - 1) P (endsN w.heap.size Kp I Ix (k + 1) W) (a1 x b) W)
    (hdone : ∀ (D m : Nat) (W : World), w.heap.size ≤ D → S m → I m W → W.heap[D]? = some (.deferred (some [])) → Q .normal { a with defers := { target := .collected D, args := #[] } :: a.defers } W)
    (hstop : ∀ (D : Nat) (c : Code) (k : Nat) (W : World), w.heap.size ≤ D → Ix c k W → W.heap[D]? = some (.deferred (some [])) → c.wpIn F n P Q { a with defers := { target := .collected D, args := #[] } :: a.defers } W) :
    (Code.rangeFunc g ps assign body).wpIn F n P Q a w := by
  refine wpIn_rangeFunc fun fn hfn => ?_
  obtain ⟨rd, hrd⟩ : ∃ r : Loop, r = { state := .ready, pending := none, fn, tmps := a.tmps, params := ps, assign, body, defers := w.heap.size } := ⟨_, rfl⟩
  have hst : rd.state = .ready := by rw [hrd]
  have hent := run_enterLoop_outer (P := P) (w := w) fn a.tmps ps assign body
  rw [← hrd] at hent
  obtain ⟨W1, hW1⟩ : ∃ W1, (w.alloc (.deferred (some []))).alloc (.loop rd) = W1 := ⟨_, rfl⟩
  rw [hW1] at hent
  have hbk : Books w.heap.size rd W1 := by
    rw [← hW1]
    refine ⟨?_, (Below.heap_alloc _ _ _ (by simp)).trans (World.alloc_heap_new w _)⟩
    have := World.alloc_heap_new (w.alloc (.deferred (some []))) (.loop rd)
    rwa [World.size_alloc] at this
  have hb1 : Below w0.heap.size w0 W1 := by
    rw [← hW1]
    exact (hb0.alloc hb0.size _).alloc (by have := hb0.size; simp; omega) _
  rw [hro]
  refine ⟨_, _, W1, { target := .fn (.func gf) lb, args := #[.func (.yield (w.heap.size + 1)) #[] #[]] }, W1, gf, #[.func (.yield (w.heap.size + 1)) #[] #[]] ++ lb, W1, hent, ?_, ?_, ?_, fun _ => h1, ?_⟩
  · simp only [resolve, hg]
    simp [go_sem]
  · intro f' hf'
    simp [Target.leads] at hf'
    subst hf'
    exact hFg
  · simp [invoke, go_sem, eg]
  have small : ∀ {W : World} {r : Loop} (r' : Loop), Books w.heap.size r W → ∀ {J : Nat → World → Prop} {k : Nat}, OwnFrom w.heap.size J → J k W → J k (W.putObj (w.heap.size + 1) (.loop r')) :=
    fun r' h _ _ hJ hj => hJ.putObj _ hj (by omega) h.1 rfl
  refine (hseq (w.heap.size + 1) (fun k W => I k W ∧ Books w.heap.size rd W) (fun k W => ∃ c, Ix c k W ∧ Books w.heap.size { rd with state := .done, pending := some c } W) W1 hb1 ?_ ?_ ?_ ⟨?_, hbk⟩).mono ?_
  · rintro k X Y ⟨hi, hb⟩ hg'
    exact ⟨hI k X Y none hi (grow0 hg') (fun r e => by cases e), hb.grow hg'⟩
  · rintro k X Y ⟨c, hi, hb⟩ hg'
    exact ⟨c, hIx c k X Y none hi (grow0 hg') (fun r e => by cases e), hb.grow hg'⟩
  · rintro k x W ⟨hi, hb⟩ hx
    have hy := run_yield (P := P) (args := enc x) hb.1 (by rw [hrd]; exact hps x)
    refine ⟨rd.fn, _, rd.assign, rd.body, hy, roundIn_of_wpIn (by rw [hrd]; exact hfn) ?_⟩
    have hasg := hassign (w.heap.size + 1) x W (fun a₁ w₁ => ∃ w₂, (Instr.beginRound (w.heap.size + 1)).run P w₁ = .ok () w₂ ∧ body.wpIn (F.inRound (w.heap.size + 1)) (n - 1 - 1) P (roundPost P (w.heap.size + 1) fun e W' => (e = .returned (.bool true) ∧ (I (k + 1) W' ∧ Books w.heap.size rd W') ∧ Kp W W') ∨ (e = .returned (.bool false) ∧ ∃ c, Ix c (k + 1) W' ∧ Books w.heap.size { rd with state := .done, pending := some c } W')) a₁ w₂) ?_
    · rw [hrd]
      rw [hrd] at hasg
      exact hasg
    have hsz : w.heap.size + 1 < W.heap.size := (Array.getElem?_eq_some_iff.1 hb.1).1
    have hbg : Below W.heap.size W (W.alloc (ob x)) := (Below.refl _ W).alloc (Nat.le_refl _) _
    have hbA := hb.grow hbg
    have hiA : I k (W.alloc (ob x)) := hI k W _ none hi (grow0 hbg) (fun r e => by cases e)
    have hxA := hPg k x W _ (by omega) hbg hx
    have hkA := hKg W _ (by omega) hbg
    refine ⟨_, run_beginRound hbA.1 hst, ?_⟩
    have hb2 := hbA.turn { rd with state := .busy }
    have hk2 : Kp W ((W.alloc (ob x)).putObj (w.heap.size + 1) (.loop { rd with state := .busy })) := hKt hkA (hKb _ _ _ _ (by omega) hbA.1 rfl)
    refine wpIn_mono (hbody (w.heap.size + 1) k x W.heap.size _ (small _ hbA hI hiA) (hPx k x _ _ _ _ (by omega) hbA.1 rfl hxA) (by omega) ((World.putObj_heap_other (by omega)).trans (World.alloc_heap_new W _))) ?_
    intro ex a3 W3 hp
    have stop : ∀ c : Code, KeepsFrom w.heap.size ((W.alloc (ob x)).putObj (w.heap.size + 1) (.loop { rd with state := .busy })) W3 → Ix c (k + 1) W3 →
        ∃ v W4, (Instr.endRound (w.heap.size + 1) (some c)).run P W3 = .ok v W4 ∧ ((Ending.returned v = .returned (.bool true) ∧ (I (k + 1) W4 ∧ Books w.heap.size rd W4) ∧ Kp W W4) ∨ (Ending.returned v = .returned (.bool false) ∧ ∃ c, Ix c (k + 1) W4 ∧ Books w.heap.size { rd with state := .done, pending := some c } W4)) := by
      intro c hk3 hi3
      have hb3 := hb2.keep hk3
      exact ⟨_, _, run_endRound (P := P) (some c) hb3.1, .inr ⟨rfl, c, small _ hb3 (hIx c) hi3, hb3.turn _⟩⟩
    cases ex with
    | normal =>
      obtain ⟨hk3, hkp3, hi3⟩ := hp
      have hb3 := hb2.keep hk3
      refine ⟨_, _, run_endRound (P := P) none hb3.1, .inl ⟨rfl, ⟨small _ hb3 hI hi3, ?_⟩, hKt (hKt hk2 hkp3) (hKb _ _ _ _ (by omega) hb3.1 rfl)⟩⟩
      have := hb3.turn rd
      rw [hrd] at this ⊢
      exact this
    | ret => exact stop _ hp.1 hp.2
    | exit id => exact stop _ hp.1 hp.2
    | goto t => exact stop _ hp.1 hp.2
    | panic ch => exact hp.elim
    | outgrown => exact hp.elim
  · rw [← hW1]
    exact hI.alloc _ (hI.alloc _ h0)
  · rintro e W2 ⟨⟨v, rfl⟩, (⟨m, hm, hi, hb⟩ | ⟨k, c, hi, hb⟩)⟩
    · refine ⟨_, _, run_endLoop (P := P) hb.1 (by rw [hst]; simp), ?_⟩
      have : rd.pending = none := by rw [hrd]
      rw [this]
      exact hdone _ m _ (Nat.le_refl _) hm (small _ hb hI hi) (hb.turn _).2
    · exact ⟨_, _, run_endLoop (P := P) hb.1 (by simp), hstop _ c k _ (Nat.le_refl _) (small _ hb (hIx c) hi) (hb.turn _).2⟩

end Go.Proofs.Rn
end
section
/- The contracts of estimate.Parts and estimate.Of. -/
namespace Go.Proofs.Ytpdhkpgnajfobaa
open Go.RowKit Go.Shelf Go.Proofs.Rw Go.Proofs.Lh Go.Proofs.Rn

attribute [local go_sem] Oper.semAt_some

theorem heap5 (w : World) (o0 o1 o2 o3 o4 : Obj) : ∃ W, W = ((((w.alloc o0).alloc o1).alloc o2).alloc o3).alloc o4 ∧ W.heap.size = w.heap.size + 5 ∧ W.heap[w.heap.size]? = some o0 ∧ W.heap[w.heap.size + 1]? = some o1 ∧ W.heap[w.heap.size + 1 + 1]? = some o2 ∧ W.heap[w.heap.size + 1 + 1 + 1]? = some o3 ∧ W.heap[w.heap.size + 1 + 1 + 1 + 1]? = some o4 ∧ Below w.heap.size w W := by
  refine ⟨_, rfl, by simp, ?_, ?_, ?_, ?_, ?_, (((((Below.refl _ w).alloc (Nat.le_refl _) _).alloc (by simp) _).alloc (by simp; omega) _).alloc (by simp; omega) _).alloc (by simp; omega) _⟩
  · rw [Below.heap_alloc _ _ _ (by simp <;> omega), Below.heap_alloc _ _ _ (by simp <;> omega), Below.heap_alloc _ _ _ (by simp <;> omega), Below.heap_alloc _ _ _ (by simp)]
    exact World.alloc_heap_new w _
  · rw [Below.heap_alloc _ _ _ (by simp <;> omega), Below.heap_alloc _ _ _ (by simp <;> omega), Below.heap_alloc _ _ _ (by simp)]
    have := World.alloc_heap_new (w.alloc o0) o1
    simpa using this
  · rw [Below.heap_alloc _ _ _ (by simp <;> omega), Below.heap_alloc _ _ _ (by simp)]
    have := World.alloc_heap_new ((w.alloc o0).alloc o1) o2
    simpa using this
  · rw [Below.heap_alloc _ _ _ (by simp)]
    have := World.alloc_heap_new (((w.alloc o0).alloc o1).alloc o2) o3
    simpa using this
  · have := World.alloc_heap_new ((((w.alloc o0).alloc o1).alloc o2).alloc o3) o4
    simpa using this
theorem heap_next {w W : World} {B : Nat} (h : Below B w W) (hB : B ≤ W.heap.size) (o : Obj) : ∃ W', W' = W.alloc o ∧ W'.heap.size = W.heap.size + 1 ∧ W'.heap[W.heap.size]? = some o ∧ (∀ b, b < W.heap.size → W'.heap[b]? = W.heap[b]?) ∧ Below B w W' :=
  ⟨_, rfl, by simp, heap_alloc_new W o, fun b hb => Below.heap_alloc W o b hb, h.alloc hB o⟩

/-- The closure that asks what is within. -/
abbrev inV (bs bt : Nat) : Value := .func (.func 71) #[] #[.pointer (some ⟨bs, 0, none⟩), .pointer (some ⟨bt, 0, none⟩)]

theorem boxed_off {W : World} {b b' : Nat} {T : TypeId} {v : Value} (h : Boxed W b T v) (hne : b ≠ b') (u : Value) : Boxed (W.setCell ⟨b', 0, none⟩ u) b T v := (Below.heap_setCell _ _ _ _ hne).trans h
theorem boxed_sum {W : World} {b : Nat} {T : TypeId} {x : Nat} (h : Boxed W b T (.int .u64 (x : Int))) (d : Nat) : Boxed (W.setCell ⟨b, 0, none⟩ (.int .u64 ((x : Int) + (d : Int)))) b T (.int .u64 ((x + d : Nat) : Int)) := by
  have := h.set (.int .u64 ((x + d : Nat) : Int))
  rw [Int.natCast_add] at this ⊢
  exact this
theorem kb_set {B b : Nat} {W : World} (h : B ≤ b) (u : Value) : Kb B W (W.setCell ⟨b, 0, none⟩ u) := ⟨by simp [World.setCell], fun c hc => Below.heap_setCell _ _ _ _ (by simp; omega)⟩
theorem heap_drew' {W : World} {D : Nat} {o : Obj} (h : W.heap[D]? = some o) : W.drew.heap[D]? = some o := h

/-- What stands in memory behind k buckets. -/
structure PI (w : World) (z f v : Nat) (ls : Lv) (k : Nat) (W : World) : Prop where
  sure : Boxed W (w.heap.size + 1) 41 (.int .u64 (sureTo (withB f v) ls k : Nat))
  cut : Boxed W (w.heap.size + 1 + 1) 41 (.int .u64 (cutTo (withB f v) ls k : Nat))
  tick : Boxed W (w.heap.size + 1 + 1 + 1) 41 (.int .u64 (f : Int))
  span : Boxed W (w.heap.size + 1 + 1 + 1 + 1) 41 (.int .u64 (v : Int))
  ask : Boxed W z 95 (inV (w.heap.size + 1 + 1 + 1 + 1) (w.heap.size + 1 + 1 + 1))
  below : Below w.heap.size w W
theorem PI.own {w : World} {z f v B : Nat} {ls : Lv} (h : w.heap.size + 4 < B) (hz : z < B) : OwnFrom B (PI w z f v ls) := fun _ W W' row hs hg hr =>
  ⟨hs.sure.kept hg (fun e => by have := (hr _ e.symm).1; omega), hs.cut.kept hg (fun e => by have := (hr _ e.symm).1; omega), hs.tick.kept hg (fun e => by have := (hr _ e.symm).1; omega),
    hs.span.kept hg (fun e => by have := (hr _ e.symm).1; omega), hs.ask.kept hg (fun e => by have := (hr _ e.symm).1; omega), hs.below.grown hg hs.below.size (fun j e => by have := (hr j e).1; omega)⟩

set_option maxRecDepth 100000 in
set_option maxHeartbeats 2000000 in
theorem partsR_in (n : Nat) (hn : 3 ≤ n) (k g : Int) (ls : Lv) (hl : ls.length ≤ 60) (hlv : ∀ i, (lev ls i).length ≤ 1000000) (ht : tot ls ≤ 4611686018427387904) (f v : Nat) (hf : f < 18446744073709551616) (w : World) (A : Option Addr) (c : Nat) (h : Levs w w.heap.size (.slice A ls.length c) ls) :
    CallsIn Fence.wide n Try.prog 22 #[hv k g (.slice A ls.length c), .int .u64 (f : Int), .int .u64 (v : Int)] w fun e w' => e = .returned (.tuple #[.int .u64 (sureL (withB f v) 0 ls : Nat), .int .u64 (cutS (withB f v) 0 ls : Nat)]) ∧ Below w.heap.size w w' := by
  have h1 : 1 ≤ n := by omega
  have HL := Lib.hid h
  clear h
  obtain ⟨N, hN⟩ : ∃ N, ls.length = N := ⟨_, rfl⟩
  rw [hN] at hl ⊢
  have HN := Lib.hid hN
  clear hN
  refine callsIn_of_wp_marks Try.func22 rfl trivial ?_ rfl
  simp only [Try.ntmps22, List.size_toArray, List.length_cons, List.length_nil, Nat.reduceAdd, Nat.reduceSub, Array.replicate_succ, Array.replicate_zero, List.push_toArray, List.append_toArray, List.nil_append, List.cons_append]
  gi_wp2_with (first
    | (refine ⟨trivial, ?_⟩; gi_at_call 42; refine (within_in (n - 1) _ _ _).mono ?_; rintro e w' ⟨rfl, rfl⟩; obtain ⟨W5, hW5, hz5, p0, p1, p2, p3, p4, hB5⟩ := heap5 w (.cells #[.int .i64 k, .int .i64 g, .slice A N c] 32) (.cells #[.int .u64 0] 41) (.cells #[.int .u64 0] 41) (.cells #[.int .u64 (f : Int)] 41) (.cells #[.int .u64 (v : Int)] 41); rw [← hW5]; obtain ⟨q0, q1, q2⟩ := box3 p0; have l0 := lt_of p0; have P0 := Lib.hid p0; have P1 := Lib.hid p1; have P2 := Lib.hid p2; have P3 := Lib.hid p3; have P4 := Lib.hid p4; have HZ5 := Lib.hid hz5; have HB5 := Lib.hid hB5; clear p0 p1 p2 p3 p4 hz5 hB5 hW5)
    | (refine ⟨trivial, ?_⟩; gi_at_call 43; refine (buckets_in (n - 1) k g _ _).mono ?_; rintro e w' ⟨rfl, rfl⟩))
  obtain ⟨W7, hW7, hz7, r0, r1, hB7⟩ := heap_two W5 (.cells #[inV (w.heap.size + 1 + 1 + 1 + 1) (w.heap.size + 1 + 1 + 1)] 95) (.cells #[.int .i64 k, .int .i64 g, .slice A N c] 32)
  rw [← hW7]
  have z5 := HZ5.out
  have hBw : Below w.heap.size w W7 := thn HB5.out hB7
  have hL7 : Levs W7 w.heap.size (.slice A ls.length c) ls := HL.out.below hBw
  have seq := buckets1_in (n - 1) (by omega) w.heap.size (W5.heap.size + 1) k g ls (by have := HN.out; omega) hlv W7 (by omega) A c hL7 (by rw [HN.out]; exact r1)
  have hI0 : PI w W5.heap.size f v ls 0 W7 := by
    refine ⟨?_, ?_, (hB7.block _ (by omega)).trans P3.out, (hB7.block _ (by omega)).trans P4.out, r0, hBw⟩
    · rw [sure_zero]
      exact (hB7.block _ (by omega)).trans P1.out
    · rw [cut_zero]
      exact (hB7.block _ (by omega)).trans P2.out
  obtain ⟨z, hz⟩ : ∃ z, W5.heap.size = z := ⟨_, rfl⟩
  rw [hz] at hz7 seq hI0 z5 ⊢
  have zl : w.heap.size + 4 < z := by omega
  have z7 : z < W7.heap.size := by omega
  have z8 : w.heap.size ≤ W7.heap.size := by omega
  have z9 : w.heap.size + 4 < W7.heap.size := by omega
  clear z5 hz7 hz r0 r1 hL7 hB7 hW7 q0 q1 q2 l0 P0 P1 P2 P3 P4 HZ5 HB5
  refine range_m rfl h1 (gf := 72) (lb := #[.pointer (some ⟨z + 1, 0, none⟩)]) rfl trivial (enters_of Try.func72 (by kernel_rfl) rfl)
    seq (fun h k => h.trans k) (Kb.put z8) (fun _ _ _ _ _ _ _ _ _ h => h) (Below.refl _ _) (fun _ => rfl)
    (PI w z f v ls) (fun _ _ _ => False)
    (PI.own z9 z7)
    (fun _ _ _ _ _ hs _ _ => hs)
    hI0
    (fun x => .cells #[.int .u64 (x.2.1 : Int), .int .u64 (x.2.2 : Int)] 74)
    (fun x b => { tmps := #[hv k g (.slice A N c), .int .u64 (f : Int), .int .u64 (v : Int), .pointer (some ⟨w.heap.size, 0, none⟩), undef, undef, .int .u64 0, .int .u64 0, .pointer (some ⟨w.heap.size + 1, 0, none⟩), .pointer (some ⟨w.heap.size + 1 + 1, 0, none⟩), .pointer (some ⟨z, 0, none⟩),
      .int .u64 ((2 ^ x.1 : Nat) : Int), .pointer (some ⟨b, 0, none⟩), .int .u64 (f : Int), .int .u64 (v : Int), inV (w.heap.size + 1 + 1 + 1 + 1) (w.heap.size + 1 + 1 + 1), hv k g (.slice A N c), .func (.func 72) #[] #[.pointer (some ⟨z + 1, 0, none⟩)],
      .int .u64 ((2 ^ x.1 : Nat) : Int), .agg #[.int .u64 (x.2.1 : Int), .int .u64 (x.2.2 : Int)], undef, undef, undef, undef, undef, undef, undef, undef, undef, undef, undef, undef, undef, undef, undef, undef, undef, undef], defers := [] })
    (fun W W' hz hb => Kb.of_below hb (Nat.le_trans z8 hz)) (fun _ _ _ _ _ _ h => h) ?assign ?body ?done ?stop
  case assign =>
    intro l x W K hK
    gi_wp2
    exact hK
  case body =>
    rintro l j x b W ⟨hs, hc, htk, hsp, hin, hB⟩ hx hb hblk
    have hns := sure_next (p := withB f v) hx
    have hnc := cut_next (p := withB f v) hx
    have hle := to_le (withB f v) ls (j + 1)
    unfold sureV at hns
    unfold cutV at hnc
    obtain ⟨d, hd⟩ : ∃ d, 2 ^ x.1 = d := ⟨_, rfl⟩
    rw [hd] at hns hnc ⊢
    generalize x.2.1 = t0 at *
    generalize x.2.2 = t1 at *
    have hw0 := with1_any t0 f v hf _ _ W hsp.cell htk.cell
    have hw1 := with1_any t1 f v hf _ _ W hsp.cell htk.cell
    obtain ⟨b0, b1, -, -⟩ := box2 hblk
    have lb := lt_of hblk
    have li := hin.cell
    have lli := hin.lt
    have cs := hs.cell
    have cc := hc.cell
    have fs := hs.frozen
    have fc := hc.frozen
    obtain ⟨u, hu⟩ : ∃ u, sureTo (withB f v) ls j = u := ⟨_, rfl⟩
    obtain ⟨y, hy⟩ : ∃ y, cutTo (withB f v) ls j = y := ⟨_, rfl⟩
    rw [hu] at hns cs hs
    rw [hy] at hnc cc hc
    have HB := Lib.hid hB
    have HS := Lib.hid hs
    have HC := Lib.hid hc
    have HT := Lib.hid htk
    have HSP := Lib.hid hsp
    have HIN := Lib.hid hin
    have HW0 := Lib.hid hw0
    have HW1 := Lib.hid hw1
    have ls1 := hs.lt
    have lc1 := hc.lt
    clear hB hs hc htk hsp hin hw0 hw1 hblk hx hd hu hy seq hI0 hBw
    cases hq0 : withB f v t0 with
    | true =>
      rw [hq0, if_pos rfl] at hns hnc
      rw [hq0] at HW0
      have bd : (u : Int) + (d : Int) ≤ 18446744073709551615 := by omega
      have HNS := Lib.hid hns
      have HNC := Lib.hid hnc
      clear hns hnc hle hq0 HW1
      gi_wp2_with (refine ⟨trivial, fun _ => (by omega), ?_⟩; refine (callsIn_round l (callsIn_wide.2 HW0.out)).mono ?_; rintro e w' ⟨rfl, rfl⟩)
      refine ⟨(KeepsOthers.setCell _ _ _).from _, kb_set (by omega) _, ?_, ?_, boxed_off HT.out (by omega) _, boxed_off HSP.out (by omega) _, boxed_off HIN.out (by omega) _, HB.out.setCell (p := ⟨w.heap.size + 1, 0, none⟩) (by simp) _⟩
      · rw [HNS.out]
        exact boxed_sum HS.out d
      · rw [HNC.out]
        exact boxed_off HC.out (by omega) _
    | false =>
      rw [hq0, if_neg (by simp)] at hns hnc
      rw [hq0] at HW0
      cases hq1 : withB f v t1 with
      | true =>
        rw [hq1, if_pos rfl] at hnc
        rw [hq1] at HW1
        have bd : (y : Int) + (d : Int) ≤ 18446744073709551615 := by omega
        have HNS := Lib.hid hns
        have HNC := Lib.hid hnc
        clear hns hnc hle hq0 hq1
        gi_wp2_with (first
          | (refine ⟨trivial, fun _ => (by omega), ?_⟩; (with_reducible refine (callsIn_round l (callsIn_wide.2 HW0.out)).mono ?_); rintro e w' ⟨rfl, rfl⟩)
          | (refine ⟨trivial, fun _ => (by omega), ?_⟩; (with_reducible refine (callsIn_round l (callsIn_wide.2 HW1.out)).mono ?_); rintro e w' ⟨rfl, rfl⟩))
        refine ⟨(KeepsOthers.setCell _ _ _).from _, kb_set (by omega) _, ?_, ?_, boxed_off HT.out (by omega) _, boxed_off HSP.out (by omega) _, boxed_off HIN.out (by omega) _, HB.out.setCell (p := ⟨w.heap.size + 1 + 1, 0, none⟩) (by simp; omega) _⟩
        · rw [HNS.out]
          exact boxed_off HS.out (by omega) _
        · rw [HNC.out]
          exact boxed_sum HC.out d
      | false =>
        rw [hq1, if_neg (by simp)] at hnc
        rw [hq1] at HW1
        have HNS := Lib.hid hns
        have HNC := Lib.hid hnc
        clear hns hnc hle hq0 hq1
        gi_wp2_with (first
          | (refine ⟨trivial, fun _ => (by omega), ?_⟩; (with_reducible refine (callsIn_round l (callsIn_wide.2 HW0.out)).mono ?_); rintro e w' ⟨rfl, rfl⟩)
          | (refine ⟨trivial, fun _ => (by omega), ?_⟩; (with_reducible refine (callsIn_round l (callsIn_wide.2 HW1.out)).mono ?_); rintro e w' ⟨rfl, rfl⟩))
        refine ⟨KeepsFrom.refl _ _, Kb.refl _ _, ?_, ?_, HT.out, HSP.out, HIN.out, HB.out⟩
        · rw [HNS.out]
          exact HS.out
        · rw [HNC.out]
          exact HC.out
  case done =>
    rintro D _ W hD rfl hI hK
    have cs := hI.sure.cell
    have cc := hI.cut.cell
    have ls1 := hI.sure.lt
    have lc1 := hI.cut.lt
    rw [sure_to] at cs
    rw [cut_to] at cc
    have HB := Lib.hid hI.below
    clear hI hI0 seq
    gi_wp2
    gi_region
    all_goals
      gi_wp2
      refine ⟨by simp, .inl ⟨_, _, rfl, run_takeDeferred (heap_drew' hK), ?_⟩⟩
      exact ⟨_, results_tmp2 rfl _ _ _, rfl, HB.out.drew.trans (belowK_b (w := w) (Nat.le_refl _) W.drew D _ _ (by omega) (heap_drew' hK) rfl rfl)⟩
  case stop =>
    rintro D c pre W _ h _
    exact h.elim

/-- estimate.Parts, in whatever memory. -/
theorem parts_any (k g : Int) (ls : Lv) (hl : ls.length ≤ 60) (hlv : ∀ i, (lev ls i).length ≤ 1000000) (ht : tot ls ≤ 4611686018427387904) (f v : Nat) (hf : f < 18446744073709551616) (w : World) (A : Option Addr) (c : Nat) (h : Levs w w.heap.size (.slice A ls.length c) ls) :
    Calls Try.prog 22 #[hv k g (.slice A ls.length c), .int .u64 (f : Int), .int .u64 (v : Int)] w fun e w' => e = .returned (.tuple #[.int .u64 (sureL (withB f v) 0 ls : Nat), .int .u64 (cutS (withB f v) 0 ls : Nat)]) ∧ Below w.heap.size w w' :=
  (callsIn_wide (n := 3)).1 (partsR_in 3 (by omega) k g ls hl hlv ht f v hf w A c h)

set_option maxHeartbeats 1000000 in
theorem of_any (k g : Int) (ls : Lv) (hl : ls.length ≤ 60) (hlv : ∀ i, (lev ls i).length ≤ 1000000) (ht : tot ls ≤ 4611686018427387904) (f v : Nat) (hf : f < 18446744073709551616) (w : World) (A : Option Addr) (c : Nat) (h : Levs w w.heap.size (.slice A ls.length c) ls) :
    Calls Try.prog 19 #[hv k g (.slice A ls.length c), .int .u64 (f : Int), .int .u64 (v : Int)] w fun e w' => e = .returned (.int .u64 (estL (withB f v) ls : Nat)) ∧ Below w.heap.size w w' := by
  have hb0 : Below w.heap.size w (w.alloc (.cells #[.int .i64 k, .int .i64 g, .slice A ls.length c] 32)) := (Below.refl _ w).alloc (Nat.le_refl _) _
  have hp := parts_any k g ls hl hlv ht f v hf _ A c (h.grow hb0)
  have hle := parts_le (withB f v) ls 0
  rw [tot_eq] at hle
  have he : estL (withB f v) ls = sureL (withB f v) 0 ls + cutS (withB f v) 0 ls / 2 := rfl
  obtain ⟨s, hs⟩ : ∃ s, sureL (withB f v) 0 ls = s := ⟨_, rfl⟩
  obtain ⟨y, hy⟩ : ∃ s, cutS (withB f v) 0 ls = s := ⟨_, rfl⟩
  rw [hs, hy] at hp hle he
  have hq : (s : Int) + (y : Int) / 2 = ((estL (withB f v) ls : Nat) : Int) := by omega
  have bd : (s : Int) + (y : Int) / 2 ≤ 18446744073709551615 := by omega
  have HP := Lib.hid hp
  have HB0 := Lib.hid hb0
  have HQ := Lib.hid hq
  clear hp hb0 hq he hs hy h
  go_enter Try.func19, Try.ntmps19
  go_wp2_with (go_at_call 22; refine HP.out.mono ?_; rintro e w1 ⟨rfl, hb1⟩; have HB1 := Lib.hid hb1; clear hb1)
  rw [HQ.out]
  go_ret
  exact ⟨rfl, thn HB0.out HB1.out⟩

end Go.Proofs.Ytpdhkpgnajfobaa
end
