/- estimate's function that is ranged over: each bucket, with its units. -/
import Derived.Test.YthmbmiikhghaoaaHLevels
import Derived.Test.YthmbmiikhghaoaaEsWith
namespace Go.Proofs.Ythmbmiikhghaoaa
open Go.RowKit Go.Shelf Go.Proofs.Rw Go.Proofs.Lh Go.Proofs.Rn

attribute [local go_sem] Oper.semAt_some

/-- What is handed over in a round: a bucket's units, and the bucket. -/
abbrev encB (x : Nat × Sp) : Array Value := #[.int .u64 ((2 ^ x.1 : Nat) : Int), .agg #[.int .u64 (x.2.1 : Int), .int .u64 (x.2.2 : Int)]]
def PxB (ls : Lv) (k : Nat) (x : Nat × Sp) (_ : World) : Prop := (bk 0 ls)[k]? = some x
theorem two_ways {e : Ending} {A B : Prop} (h : (e = .returned (.bool true) ∧ A) ∨ (e = .returned (.bool false) ∧ B)) : ∃ q : Bool, e = .returned (.bool q) ∧ (q = true → A) ∧ (q = false → B) := by
  rcases h with ⟨rfl, h⟩ | ⟨rfl, h⟩
  · exact ⟨true, rfl, fun _ => h, fun e => (by cases e)⟩
  · exact ⟨false, rfl, fun e => (by cases e), fun _ => h⟩

theorem unit_wrap {i : Nat} (h : i < 60) : IntKind.u64.wrap (2 ^ i) = ((2 ^ i : Nat) : Int) := by
  have h1 : 2 ^ i ≤ 2 ^ 60 := Nat.pow_le_pow_right (by omega) (by omega)
  have e : (2 : Int) ^ i = ((2 ^ i : Nat) : Int) := by simp
  rw [e]
  generalize 2 ^ i = m at *
  exact IntWalk.u64_in _ ⟨by omega, by omega⟩
theorem Kb.of_below {B : Nat} {W W' : World} (h : Below W.heap.size W W') (hB : B ≤ W.heap.size) : Kb B W W' := ⟨h.size, fun b hb => h.block b (by omega)⟩

set_option maxRecDepth 100000 in
set_option maxHeartbeats 1000000 in
theorem buckets1_in (n : Nat) (hn : 1 ≤ n) (B bx : Nat) (k g : Int) (ls : Lv) (hl : ls.length ≤ 60) (hlv : ∀ i, (lev ls i).length ≤ 1000000) (w : World) (hB : B ≤ w.heap.size) (A : Option Addr) (c : Nat) (h : Levs w B (.slice A ls.length c) ls)
    (hbx : w.heap[bx]? = some (.cells #[.int .i64 k, .int .i64 g, .slice A ls.length c] 32)) :
    SeqN Fence.wide n Try.prog 32 #[.pointer (some ⟨bx, 0, none⟩)] encB (PxB ls) (Kb B) (fun m => m = (bk 0 ls).length) w := by
  intro l J Jx W hW hJ hJx hY hJ0
  have hL := h.below (hW.mono hB)
  have hcell : W.cell? ⟨bx, 2, none⟩ = some (.slice A ls.length c) := by
    have e := (hW.block bx (lt_of hbx)).trans hbx
    simp [World.cell?, e]
  have hbl : bx < W.heap.size := Nat.lt_of_lt_of_le (lt_of hbx) hW.size
  obtain ⟨N, hN⟩ : ∃ N, ls.length = N := ⟨_, rfl⟩
  rw [hN] at hcell hl hL
  have HN := Lib.hid hN
  have HJ := Lib.hid hJ
  have HY := Lib.hid hY
  have HL := Lib.hid hL
  have HW := Lib.hid hW
  have HLV := Lib.hid hlv
  clear hJ hJx hY h hL hbx hN hW hlv
  refine callsIn_of_wp Try.func32 rfl trivial ?_ rfl
  simp only [Try.ntmps32, List.size_toArray, List.length_cons, List.length_nil, Nat.reduceAdd, Nat.reduceSub, Array.replicate_succ, Array.replicate_zero, List.push_toArray, List.append_toArray, List.nil_append, List.cons_append]
  gi_wp2
  gi_loopw [10] (fun p wr => ∃ i : Nat, p = .int .i64 i ∧ i ≤ N ∧ J (offB ls i) wr ∧ Kb B W wr) (fun p _ => N - (intOf p).toNat)
  case atStart => exact ⟨0, rfl, Nat.zero_le _, by rw [off_zero]; exact hJ0, Kb.refl _ _⟩
  case round =>
    obtain ⟨i, rfl, hle, hJs, hK⟩ := hrel
    have hsz : B ≤ wr.heap.size := Nat.le_trans hB (Nat.le_trans HW.out.size hK.size)
    by_cases hlt : i < N
    · have hil : i < ls.length := by rw [HN.out]; exact hlt
      have hLr : Levs wr B (.slice A N c) ls := HL.out.keep hK.block
      obtain ⟨b, off, rfl, hb, -, hc⟩ := hLr.at (by omega)
      obtain ⟨Ai, ci, q0, -, -, hLi⟩ := hc i hil
      have hbs : b < wr.heap.size := by omega
      have hos := off_succ hil
      have hget := fun (j : Nat) (hj : j < ls[i].length) => bk_get hil hj
      have hm6 := HLV.out i
      rw [lev_lt hil] at hm6
      obtain ⟨li, hli⟩ : ∃ l, ls[i] = l := ⟨_, rfl⟩
      have hget2 : ∀ (j : Nat) (hj : j < li.length), (bk 0 ls)[offB ls i + j]? = some (i, li[j]) := by
        subst hli
        exact hget
      rw [hli] at q0 hLi hos hm6
      obtain ⟨m, hm⟩ : ∃ m, li.length = m := ⟨_, rfl⟩
      rw [hm] at q0 hLi hos hm6
      have HGET := Lib.hid hget2
      have HOS := Lib.hid hos
      have HM := Lib.hid hm
      have HKK := Lib.hid hK
      have HLI := Lib.hid hLi
      obtain ⟨o, ho⟩ : ∃ o, offB ls i = o := ⟨_, rfl⟩
      rw [ho] at HGET HOS hJs
      clear hc hLi hLr hcell hJ0 hK hget hget2 hos hm hli hil ho
      rename World => wo
      gi_wp2
      gi_loopw [17] (fun p wr => ∃ j : Nat, p = .int .i64 j ∧ j ≤ m ∧ J (o + j) wr ∧ Kb B W wr) (fun p _ => m - (intOf p).toNat)
      case atStart => exact ⟨0, rfl, Nat.zero_le _, hJs, HKK.out⟩
      case round =>
        obtain ⟨j, rfl, hjle, hJr, hK⟩ := hrel
        by_cases hjt : j < m
        · have hjl : j < li.length := by rw [HM.out]; exact hjt
          have hsz2 : B ≤ wr.heap.size := Nat.le_trans hB (Nat.le_trans HW.out.size hK.size)
          have hLj : Lies spL wr B (.slice Ai m ci) li := HLI.out.keep fun b hb => (hK.block b hb).trans (HKK.out.block b hb).symm
          obtain ⟨b2, off2, rfl, hb2, -, hc2⟩ := sp_at hLj (by omega)
          obtain ⟨e0, e1⟩ := hc2 j hjl
          have hx := HGET.out j hjl
          obtain ⟨x, hxe⟩ : ∃ x, li[j] = x := ⟨_, rfl⟩
          rw [hxe] at hx e0 e1
          have lb2 : b2 < wr.heap.size := by omega
          have HKR := Lib.hid hK
          have HX := Lib.hid hx
          have hi60 : i < 60 := by omega
          clear hc2 hLj hx hxe hjl hK
          gi_wp2
          obtain ⟨W1, hW1⟩ : ∃ W', wr.alloc (.cells #[.int .u64 (x.1 : Int), .int .u64 (x.2 : Int)] 53) = W' := ⟨_, rfl⟩
          have hB1 : Below wr.heap.size wr W1 := by rw [← hW1]; exact (Below.refl _ wr).alloc (Nat.le_refl _) _
          have hp1 : W1.heap[wr.heap.size]? = some (.cells #[.int .u64 (x.1 : Int), .int .u64 (x.2 : Int)] 53) := by rw [← hW1]; exact heap_alloc_new wr _
          rw [hW1]
          obtain ⟨f0, f1, -, -⟩ := box2 hp1
          have lf := lt_of hp1
          have hJ1 : J (o + j) W1.drew := HJ.out _ _ _ hJr hB1.drew
          obtain ⟨fn, tmps, assign, body, hy, hR⟩ := HY.out (o + j) (i, x) W1.drew hJ1 HX.out
          have HR := Lib.hid hR
          have HB1 := Lib.hid hB1
          dsimp only [encB] at hy
          rw [← unit_wrap hi60] at hy
          clear hR hB1 hp1 hW1 hJ1 q0 e0 e1
          gi_region_with (refine HR.out.mono ?_; rintro e W3 h3; obtain ⟨q, rfl, h4, h5⟩ := two_ways h3; have H4 := Lib.hid h4; have H5 := Lib.hid h5; clear h3 h4 h5)
          all_goals
            cases q
            case false =>
              gi_wp2
              refine bodyPost_ret (results_none rfl _ _ _) rfl ?_
              exact ⟨⟨_, rfl⟩, .inr ⟨_, H5.out (by first | rfl | trivial)⟩⟩
            case true =>
              obtain ⟨hJ3, hk3⟩ := H4.out (by first | rfl | trivial)
              gi_wp2
              go_roundw
              case rel => exact ⟨j + 1, by go_num, hjt, hJ3, (HKR.out.trans (Kb.of_below HB1.out.drew hsz2)).trans hk3⟩
              case measure => simp [intOf]; omega
        · have e : j = m := by omega
          subst e
          rw [← HOS.out] at hJr
          gi_wp2
          go_roundw
          case rel => exact ⟨i + 1, by go_num, hlt, hJr, hK⟩
          case measure => simp [intOf]; omega
    · have e : i = N := by omega
      subst e
      have ef : offB ls i = (bk 0 ls).length := by rw [← off_all, HN.out]
      rw [ef] at hJs
      gi_wp2
      refine bodyPost_end (results_none rfl _ _ _) rfl ?_
      exact ⟨⟨_, rfl⟩, .inl ⟨_, rfl, hJs⟩⟩

end Go.Proofs.Ythmbmiikhghaoaa
