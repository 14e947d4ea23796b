/- skylightlaw10.real: what really came to a tree. · A region that draws its order, walked by facts (Facts.lean), where some operations behind the first n yield the same in every world, and may come up whenever they like (the address of a field that is stored at last): they are taken first. Then the first n by facts, then the rest, whose order is forced, as a list. -/
import Derived.Test.YtpdhkpgnajfobaaJ20
import Derived.StillTail
import Derived.Test.YtpdhkpgnajfobaaJ06
section
/- skylightlaw10.real: what really came to a tree. -/
namespace Go.Proofs.Lh
open Go.Proofs.Lm (Sp)
def sumTo (d : Nat) (f : Nat → Nat) : Nat → Nat
  | 0 => 0
  | i + 1 => sumTo d f i + timesN d i * f i
theorem sumTo_four (d : Nat) (f : Nat → Nat) : sumTo d f 4 = sumT d f := by
  show 0 + _ + _ + _ + _ = _
  rw [Nat.zero_add]
  rfl
theorem times_le {d : Nat} (h : d ≤ 4) (i : Nat) : timesN d i ≤ 3 := by
  unfold timesN
  split
  · split <;> omega
  · split
    · split <;> omega
    · split <;> omega
theorem sumTo_le {d : Nat} (h : d ≤ 4) {f : Nat → Nat} {B : Nat} (hf : ∀ i, i < 4 → f i ≤ B) : ∀ j, j ≤ 4 → sumTo d f j ≤ j * (3 * B)
  | 0, _ => by simp [sumTo]
  | j + 1, hj => by
    have h1 := sumTo_le h hf j (by omega)
    have h2 : timesN d j * f j ≤ 3 * B := Nat.mul_le_mul (times_le h j) (hf j (by omega))
    rw [sumTo, Nat.add_mul]
    omega
end Go.Proofs.Lh
namespace Go.Proofs.Ytpdhkpgnajfobaa
open Go.RowKit Go.Shelf Go.Proofs.Rw Go.Proofs.Lh Go.Proofs.Rf

def exT (t : Tr) (f g i : Nat) : Nat := exactN (kOf t.K) (withB f g) (t.ds i) (doneN (t.ds i))
theorem light_done {t : Tr} (hl : IsLight t) {i : Nat} (hi : i < 4) : doneN (t.ds i) = (t.ds i).length := by
  have := (hl i hi).1
  unfold doneN
  omega
theorem exT_le {t : Tr} (hl : IsLight t) (f g : Nat) (i : Nat) (hi : i < 4) : exT t f g i ≤ 21990232555520 := by
  have h1 := (hl i hi).1
  have hk := kOf_le t.K
  have h2 := exact_le (kOf t.K) (withB f g) (t.ds i) (doneN (t.ds i)) (by unfold doneN; omega)
  have h3 := play_tot (k := kOf t.K) hk.1 (by omega) (t.ds i) 1099511627776 (hl i hi).2 (doneN (t.ds i)) (by unfold doneN; omega)
  have h4 : doneN (t.ds i) * 1099511627776 ≤ 20 * 1099511627776 := Nat.mul_le_mul_right _ (by unfold doneN; omega)
  unfold exT
  omega
theorem wrapU {x : Nat} (h : (x : Int) < 18446744073709551616) : IntKind.u64.wrap (x : Int) = (x : Int) := by
  simp [IntKind.wrap, IntKind.bits, IntKind.signed]
  omega
theorem times_at {W : World} {b d : Nat} {T : TypeId} (h : W.heap[b]? = some (.cells #[.int .u64 (timesN d 0 : Nat), .int .u64 (timesN d 1 : Nat), .int .u64 (timesN d 2 : Nat), .int .u64 (timesN d 3 : Nat)] T)) (i : Nat) (hi : i < 4) : W.cell? ⟨b, i, none⟩ = some (.int .u64 (timesN d i : Nat)) := by
  match i, hi with
  | 0, _ => simp [World.cell?, h]
  | 1, _ => simp [World.cell?, h]
  | 2, _ => simp [World.cell?, h]
  | 3, _ => simp [World.cell?, h]

set_option maxRecDepth 100000 in
set_option maxHeartbeats 4000000 in
theorem real_any (t : Tr) (f g : Nat) (hf : f < 18446744073709551616) (w : World) (hok : TrOk t w) (hl : IsLight t) : Calls Try.prog 20 #[.agg t.cells, .int .u64 (f : Int), .int .u64 (g : Int)] w fun e w' => e = .returned (.int .u64 (sumT (t.deep % 5) (exT t f g) : Nat)) ∧ Below w.heap.size w w' := by
  obtain ⟨W0, hW0⟩ : ∃ W, w.alloc (.cells t.cells 38) = W := ⟨_, rfl⟩
  have hB0 : Below w.heap.size w W0 := by rw [← hW0]; exact (Below.refl _ w).alloc (Nat.le_refl _) _
  have p0 : W0.heap[w.heap.size]? = some (.cells t.cells 38) := by rw [← hW0]; exact heap_alloc_new w _
  have HT := Lib.hid (times_tree t W0 (hok.grow hB0))
  have hle : ∀ j, j ≤ 4 → sumTo (t.deep % 5) (exT t f g) j ≤ j * (3 * 21990232555520) := sumTo_le (by omega) (exT_le hl f g)
  have hx : ∀ j, j < 4 → timesN (t.deep % 5) j * exT t f g j ≤ 3 * 21990232555520 := fun j hj => Nat.mul_le_mul (times_le (by omega) j) (exT_le hl f g j hj)
  have hex : ∀ j, j < 4 → ∀ W, Below w.heap.size w W → Calls Try.prog 39 #[.int .i64 t.K, .slice (t.A j) (t.ds j).length (t.c j), .int .u64 (f : Int), .int .u64 (g : Int)] W fun e w' => e = .returned (.int .u64 (exT t f g j : Nat)) ∧ Below W.heap.size W w' := fun j hj W hW => exact_any t.K (bounds_i64 hok.wf).1 (by have := (bounds_i64 hok.wf).2; omega) (t.ds j) f g hf W (t.A j) _ (t.c j) ((hok.deeds j hj).grow hW)
  have HLE := Lib.hid hle
  have HX := Lib.hid hx
  have HEX0 := Lib.hid hex
  have HW0 := Lib.hid hW0
  have HP0 := Lib.hid p0
  have HB0 := Lib.hid hB0
  clear hW0 hB0 p0 hle hx hex hl hok
  go_enter Try.func20, Try.ntmps20
  go_upto_region 1 with (fail)
  rw [HW0.out]
  obtain ⟨z0, z1, z5⟩ := tr_box HP0.out
  have z10 := z1 0 (by omega)
  have z11 := z1 1 (by omega)
  have z12 := z1 2 (by omega)
  have z13 := z1 3 (by omega)
  have l0 := lt_of HP0.out
  clear z1
  go_upto_region 2 with (go_at_call 38; refine HT.out.mono ?_; rintro e w2 ⟨rfl, hb2⟩; have HB2 := Lib.hid hb2; clear hb2)
  obtain ⟨W1, hW1⟩ : ∃ W, w2.alloc (.cells #[.int .u64 (timesN (t.deep % 5) 0 : Nat), .int .u64 (timesN (t.deep % 5) 1 : Nat), .int .u64 (timesN (t.deep % 5) 2 : Nat), .int .u64 (timesN (t.deep % 5) 3 : Nat)] 89) = W := ⟨_, rfl⟩
  have b1 : Below w2.heap.size w2 W1 := by rw [← hW1]; exact (Below.refl _ w2).alloc (Nat.le_refl _) _
  have p1 : W1.heap[w2.heap.size]? = some (.cells #[.int .u64 (timesN (t.deep % 5) 0 : Nat), .int .u64 (timesN (t.deep % 5) 1 : Nat), .int .u64 (timesN (t.deep % 5) 2 : Nat), .int .u64 (timesN (t.deep % 5) 3 : Nat)] 89) := by rw [← hW1]; exact heap_alloc_new w2 _
  rw [hW1]
  have b01 := thn HB2.out b1
  have HPX := Lib.hid ((b01.block _ l0).trans HP0.out)
  have HPT := Lib.hid p1
  have HB1 := Lib.hid (thn HB0.out b01)
  obtain ⟨bX, hbX⟩ : ∃ x, w.heap.size = x := ⟨_, rfl⟩
  obtain ⟨bT, hbT⟩ : ∃ x, w2.heap.size = x := ⟨_, rfl⟩
  rw [hbX] at HPX
  simp only [hbX] at HEX0 HB1 ⊢
  have HBXE := Lib.hid hbX
  rw [hbT] at HPT ⊢
  obtain ⟨d, hd⟩ : ∃ x, t.deep % 5 = x := ⟨_, rfl⟩
  rw [hd] at HPT ⊢
  simp only [hd] at HX HLE
  have HDD := Lib.hid hd
  clear b1 p1 hW1 b01 l0 z0 z5 z10 z11 z12 z13 HP0 HB0 HB2 HT HW0 hd hbT hbX
  go_wp2
  go_loopw [8, 9] (fun s p wr => ∃ j : Nat, p = .int .i64 (j : Int) ∧ j ≤ 4 ∧ s = .int .u64 (sumTo d (exT t f g) j : Nat) ∧ Hid (Below W1.heap.size W1 wr)) (fun _ p _ => 4 - (intOf p).toNat)
  case atStart => exact ⟨0, rfl, by omega, rfl, Lib.hid (Below.refl _ _)⟩
  case round =>
    obtain ⟨j, rfl, hj, rfl, HBR⟩ := hrel
    by_cases hlt : j < 4
    · have hpx := (HBR.out.block _ (lt_of HPX.out)).trans HPX.out
      have hpt := (HBR.out.block _ (lt_of HPT.out)).trans HPT.out
      obtain ⟨y0, y1, -⟩ := tr_box hpx
      have y1 := y1 j hlt
      have yt := times_at hpt j hlt
      have lX := lt_of hpx
      have lT := lt_of hpt
      have hbw := HB1.out.trans (HBR.out.mono (Nat.le_of_lt (lt_of HPX.out)))
      have hex := fun (W : World) (hW : Grows wr W) => HEX0.out j hlt W (hbw.trans (hW.mono (Nat.le_of_lt lX)))
      have h1 := HLE.out (j + 1) hlt
      have h2 := HX.out j hlt
      obtain ⟨K, hK⟩ : ∃ x, t.K = x := ⟨_, rfl⟩
      obtain ⟨A, hA⟩ : ∃ x, t.A j = x := ⟨_, rfl⟩
      obtain ⟨N, hN⟩ : ∃ x, (t.ds j).length = x := ⟨_, rfl⟩
      obtain ⟨c, hc⟩ : ∃ x, t.c j = x := ⟨_, rfl⟩
      obtain ⟨ex, hE⟩ : ∃ x, exT t f g j = x := ⟨_, rfl⟩
      obtain ⟨ti, hti⟩ : ∃ x, timesN d j = x := ⟨_, rfl⟩
      obtain ⟨S, hS⟩ : ∃ x, sumTo d (exT t f g) j = x := ⟨_, rfl⟩
      obtain ⟨p, hp⟩ : ∃ x, ti * ex = x := ⟨_, rfl⟩
      obtain ⟨S2, hS2⟩ : ∃ x, S + p = x := ⟨_, rfl⟩
      have hnx : sumTo d (exT t f g) (j + 1) = S2 := by rw [sumTo, hS, hti, hE, hp, hS2]
      rw [hK, hA, hN, hc, hE] at hex
      rw [hK] at y0
      rw [hA, hN, hc] at y1
      rw [hti] at yt
      rw [hnx] at h1
      rw [hti, hE, hp] at h2
      rw [hS]
      have HMU := Lib.hid (show (ti : Int) * (ex : Int) = (p : Int) ∧ (p : Int) < 18446744073709551616 from ⟨by rw [← hp]; exact (Int.natCast_mul ti ex).symm, by omega⟩)
      have HS2 := Lib.hid (show (S : Int) + (p : Int) = (S2 : Int) ∧ (S2 : Int) < 18446744073709551616 from ⟨by omega, by omega⟩)
      have HNX := Lib.hid hnx
      have HEX := Lib.hid hex
      have Y0 := Lib.hid y0
      have Y1 := Lib.hid y1
      have YT := Lib.hid yt
      have LX := Lib.hid lX
      have LT := Lib.hid lT
      have HJ4 := Lib.hid hlt
      clear hpx hpt y0 y1 yt lX lT hbw hex h1 h2 hK hA hN hc hE hti hS hp hS2 hnx
      go_upto_region 6 with (fail)
      refine region_facts0 (fr := ?frR) 15 [16, 17, 18, 19, 20, 21, 22, 23, 24, 25, 26, 27, 28, 29, 30] (fun i v W => match i with
          | 0 => v = .int .u64 (S : Int)
          | 1 => v = .int .i64 (j : Int)
          | 2 => v = .pointer (some ⟨bT, j, none⟩)
          | 3 => v = .int .u64 (ti : Int)
          | 4 => v = .pointer (some ⟨bX, 0, none⟩)
          | 5 => v = .int .i64 K
          | 6 => v = .int .i64 (j : Int)
          | 7 => v = .pointer (some ⟨bX, 1, none⟩)
          | 8 => v = .pointer (some ⟨bX, 1 + j, none⟩)
          | 9 => v = .slice A N c
          | 10 => v = .int .u64 (f : Int)
          | 11 => v = .int .u64 (g : Int)
          | 12 => v = .int .u64 (ex : Int)
          | 13 => v = .int .u64 (p : Int)
          | 14 => v = .int .u64 (S2 : Int)
          | _ => True) rfl ?hBR (by kernel_rfl) (by kernel_rfl) (by kernel_rfl) ?hfrR ?hFR ?hopR ?htailR
      case hBR => kernel_rfl
      case hfrR =>
        intro us
        simp only [putL]
        go_simp
        rfl
      case hFR =>
        intro i v W W' hG h
        match i with
        | 0 => exact h
        | 1 => exact h
        | 2 => exact h
        | 3 => exact h
        | 4 => exact h
        | 5 => exact h
        | 6 => exact h
        | 7 => exact h
        | 8 => exact h
        | 9 => exact h
        | 10 => exact h
        | 11 => exact h
        | 12 => exact h
        | 13 => exact h
        | 14 => exact h
        | n + 15 => trivial
      case hopR =>
        intro i hi us W2 hG hd
        match i, hi with
        | 0, _ =>
          clear hd
          exact hop_value rfl rfl rfl (v := .int .u64 (S : Int)) (W' := W2) (by go_simp) (Grows.refl _) rfl
        | 1, _ =>
          clear hd
          exact hop_value rfl rfl rfl (v := .int .i64 (j : Int)) (W' := W2) (by go_simp) (Grows.refl _) rfl
        | 2, _ =>
          have h1 : us 1 = .int .i64 (j : Int) := hd 1 (by omega) (by kernel_rfl)
          clear hd
          have hj4 := HJ4.out
          exact hop_value rfl rfl rfl (v := .pointer (some ⟨bT, j, none⟩)) (W' := W2) (by go_simp) (Grows.refl _) rfl
        | 3, _ =>
          have h2 : us 2 = .pointer (some ⟨bT, j, none⟩) := hd 2 (by omega) (by kernel_rfl)
          clear hd
          have q := (hG.cell (b := bT) (o := j) LT.out).trans YT.out
          have ql := Nat.lt_of_lt_of_le LT.out hG.size
          exact hop_value rfl rfl rfl (v := .int .u64 (ti : Int)) (W' := W2) (by go_simp) (Grows.refl _) rfl
        | 4, _ =>
          clear hd
          exact hop_value rfl rfl rfl (v := .pointer (some ⟨bX, 0, none⟩)) (W' := W2) (by go_simp) (Grows.refl _) rfl
        | 5, _ =>
          have h4 : us 4 = .pointer (some ⟨bX, 0, none⟩) := hd 4 (by omega) (by kernel_rfl)
          clear hd
          have q := (hG.cell (b := bX) (o := 0) LX.out).trans Y0.out
          have ql := Nat.lt_of_lt_of_le LX.out hG.size
          exact hop_value rfl rfl rfl (v := .int .i64 K) (W' := W2) (by go_simp) (Grows.refl _) rfl
        | 6, _ =>
          clear hd
          exact hop_value rfl rfl rfl (v := .int .i64 (j : Int)) (W' := W2) (by go_simp) (Grows.refl _) rfl
        | 7, _ =>
          clear hd
          exact hop_value rfl rfl rfl (v := .pointer (some ⟨bX, 1, none⟩)) (W' := W2) (by go_simp) (Grows.refl _) rfl
        | 8, _ =>
          have h6 : us 6 = .int .i64 (j : Int) := hd 6 (by omega) (by kernel_rfl)
          have h7 : us 7 = .pointer (some ⟨bX, 1, none⟩) := hd 7 (by omega) (by kernel_rfl)
          clear hd
          have hj4 := HJ4.out
          exact hop_value rfl rfl rfl (v := .pointer (some ⟨bX, 1 + j, none⟩)) (W' := W2) (by go_simp) (Grows.refl _) rfl
        | 9, _ =>
          have h8 : us 8 = .pointer (some ⟨bX, 1 + j, none⟩) := hd 8 (by omega) (by kernel_rfl)
          clear hd
          have q := (hG.cell (b := bX) (o := 1 + j) LX.out).trans Y1.out
          have ql := Nat.lt_of_lt_of_le LX.out hG.size
          exact hop_value rfl rfl rfl (v := .slice A N c) (W' := W2) (by go_simp) (Grows.refl _) rfl
        | 10, _ =>
          clear hd
          exact hop_value rfl rfl rfl (v := .int .u64 (f : Int)) (W' := W2) (by go_simp) (Grows.refl _) rfl
        | 11, _ =>
          clear hd
          exact hop_value rfl rfl rfl (v := .int .u64 (g : Int)) (W' := W2) (by go_simp) (Grows.refl _) rfl
        | 12, _ =>
          have h5 : us 5 = .int .i64 K := hd 5 (by omega) (by kernel_rfl)
          have h9 : us 9 = .slice A N c := hd 9 (by omega) (by kernel_rfl)
          have h10 : us 10 = .int .u64 (f : Int) := hd 10 (by omega) (by kernel_rfl)
          have h11 : us 11 = .int .u64 (g : Int) := hd 11 (by omega) (by kernel_rfl)
          clear hd
          refine hop_call rfl rfl rfl (f := 39) (args := #[.int .i64 K, .slice A N c, .int .u64 (f : Int), .int .u64 (g : Int)]) (by go_simp) ?_
          refine (HEX.out W2 hG).mono ?_
          rintro e W' ⟨rfl, hb⟩
          exact ⟨_, rfl, hb, rfl⟩
        | 13, _ =>
          have h3 : us 3 = .int .u64 (ti : Int) := hd 3 (by omega) (by kernel_rfl)
          have h12 : us 12 = .int .u64 (ex : Int) := hd 12 (by omega) (by kernel_rfl)
          clear hd
          obtain ⟨hm, hm2⟩ := HMU.out
          have hm3 := wrapU (x := p) (by omega)
          exact hop_value rfl rfl rfl (v := .int .u64 (p : Int)) (W' := W2) (by go_simp) (Grows.refl _) rfl
        | 14, _ =>
          have h0 : us 0 = .int .u64 (S : Int) := hd 0 (by omega) (by kernel_rfl)
          have h13 : us 13 = .int .u64 (p : Int) := hd 13 (by omega) (by kernel_rfl)
          clear hd
          obtain ⟨hm, hm2⟩ := HS2.out
          have hm3 := wrapU (x := S2) (by omega)
          exact hop_value rfl rfl rfl (v := .int .u64 (S2 : Int)) (W' := W2) (by go_simp) (Grows.refl _) rfl
        | d + 15, h => exact absurd h (by omega)
      case htailR =>
        intro us W2 hG hf
        have hz : us 14 = .int .u64 (S2 : Int) := hf 14 (by omega)
        clear hf
        rw [hz]
        have HG2 := Lib.hid hG
        clear hz hG
        simp only [List.drop_succ_cons, List.drop_zero]
        repeat (go_big_quiet_step (fail))
        refine wpQuiet_nil ?_
        rintro w' ⟨nq, rfl⟩
        have HBX := Lib.hid (below_drewN HG2.out nq)
        clear HG2
        generalize W2.drewN nq = wy at *
        go_wp2
        refine ⟨⟨j + 1, by go_num, HJ4.out, ?_, Lib.hid (HBR.out.trans (HBX.out.mono HBR.out.size))⟩, by have := HJ4.out; simp [intOf]; omega⟩
        rw [HNX.out]
    · have e : j = 4 := by omega
      subst e
      have hz := sumTo_four d (exT t f g)
      have HZ := Lib.hid hz
      obtain ⟨S, hS⟩ : ∃ x, sumTo d (exT t f g) 4 = x := ⟨_, rfl⟩
      rw [hS]
      have HSS := Lib.hid hS
      clear hz hS
      go_wp2
      refine bodyPost_ret (v := .int .u64 (S : Int)) (by simp [results, Try.results20, go_sem]) rfl ⟨by rw [HDD.out, ← HZ.out, HSS.out], by rw [HBXE.out]; exact HB1.out.trans (HBR.out.mono (Nat.le_of_lt (lt_of HPX.out)))⟩

end Go.Proofs.Ytpdhkpgnajfobaa
end
section
/-
  A region that draws its order, walked by facts (Facts.lean), where some operations behind the first n yield the same in every world, and may come up whenever they like (the address of a field that is stored at last): they are taken first. Then the first n by facts, then the rest, whose order is forced, as a list.
-/
namespace Go.Proofs.Rf
open Go Go.RowKit

/-- The first n operations, and those of X, have come up. -/
def maskN (size n : Nat) (X : List Nat) : Array Bool := ((List.range size).map fun i => decide (i < n) || X.contains i).toArray
theorem maskN_getD {size n j : Nat} {X : List Nat} (d : Bool) (h : j < size) : (maskN size n X).getD j d = (decide (j < n) || X.contains j) := by simp [maskN, Array.getD, h]

/-- What is asked: each of the first n has a slot of its own, and waits for earlier ones alone; each is waited for by a later one of them or by t0; what is behind them is of X, or t0, or waits for one behind them that isn't of X. -/
def headM (ops : Array Oper) (n t0 : Nat) (X : List Nat) (size : Nat) : Bool :=
  decide (n ≤ ops.size) && (X.all fun x => decide (n ≤ x)) && decide (n ≤ t0) &&
  ((List.range n).all fun i => ((ops[i]?).map (·.dst.isSome)).getD false && decide (dstOf ops i < size) && ((List.range n).all fun j => j == i || dstOf ops j != dstOf ops i)) &&
  ((List.range n).all fun i => ((ops[i]?).map (·.after.all fun e => !Region.binds .any e || decide (e.on < i))).getD false) &&
  ((List.range n).all fun i => (List.range ops.size).any fun k => decide (i < k) && (decide (k < n) || k == t0) && waits ops k i) &&
  ((List.range ops.size).all fun t => decide (t < n) || X.contains t || t == t0 || ((List.range ops.size).any fun j => decide (n ≤ j) && !X.contains j && waits ops t j))

section
variable {P : Program} {ops : Array Oper} {Q : Exit → Act → World → Prop} {n t0 K : Nat} {X : List Nat} {a0 : Act} {w0 : World}

theorem mask_go (G : World → World → Prop) (hGt : ∀ {A B C : World}, G A B → G B C → G A C)
    (F : Nat → Value → World → Prop) (hF : ∀ i v W W', G W W' → F i v W → F i v W') (hB : headM ops n t0 X a0.tmps.size = true)
    (hop : ∀ i, i < n → ∀ (us : Nat → Value) (W : World), G w0 W → (∀ j, j < n → waits ops i j = true → F j (us j) W) →
      wpOp P ops Q i (fun a' W' => ∃ v, a' = (putAll ops us 0 n a0).put (some (dstOf ops i)) v ∧ G W W' ∧ F i v W') (putAll ops us 0 n a0) W)
    (htail : ∀ (us : Nat → Value) (W : World), G w0 W → (∀ i, i < n → F i (us i) W) → wpAny P .any ops Q K (maskN ops.size n X) (putAll ops us 0 n a0) W) :
    ∀ (m : Nat) (listed : Array Bool) (us : Nat → Value) (W : World), listed.size = ops.size →
      (∀ j oj, j < n → ops[j]? = some oj → listed.getD j false = true → ∀ e ∈ oj.after, Region.binds .any e = true → listed.getD e.on false = true) →
      (∀ t, n ≤ t → t < ops.size → listed.getD t true = X.contains t) → unl (fun i => listed.getD i false) n = m → G w0 W → (∀ i, i < n → listed.getD i false = true → F i (us i) W) →
      wpAny P .any ops Q (m + K) listed (putAll ops us 0 n a0) W := by
  simp only [headM, Bool.and_eq_true, decide_eq_true_eq] at hB
  obtain ⟨⟨⟨⟨⟨⟨hn, hX⟩, ht0⟩, hB1⟩, hB0⟩, hB2⟩, hB3⟩ := hB
  rw [List.all_eq_true] at hB0 hB1 hB2 hB3 hX
  have hD : ∀ i, i < n → ∀ j, j < n → j ≠ i → dstOf ops j ≠ dstOf ops i := by
    intro i hi j hj hne
    have h1 := hB1 i (List.mem_range.2 hi)
    simp only [Bool.and_eq_true] at h1
    have h2 := List.all_eq_true.1 h1.2 j (List.mem_range.2 hj)
    simpa [hne] using h2
  have hE : ∀ i, i < n → ∃ o, ops[i]? = some o ∧ ∀ e ∈ o.after, Region.binds .any e = true → e.on < i := by
    intro i hi
    have h2 := hB0 i (List.mem_range.2 hi)
    cases ho : ops[i]? with
    | none => rw [ho] at h2; simp at h2
    | some o =>
      rw [ho] at h2
      simp only [Option.map_some, Option.getD_some, Array.all_eq_true_iff_forall_mem, Bool.or_eq_true, Bool.not_eq_true', decide_eq_true_eq] at h2
      exact ⟨o, rfl, fun e he hb => (h2 e he).resolve_left (by simp [hb])⟩
  have hsz : ∀ {l : Array Bool} {j : Nat}, l.size = ops.size → j < ops.size → l.getD j true = l.getD j false := by
    intro l j hl hj
    simp [Array.getD, hl, hj]
  intro m
  induction m with
  | zero =>
    intro listed us W hl hcl ht hu hG hf
    have hall := unl_zero n hu
    have e : listed = maskN ops.size n X := by
      apply Array.ext
      · simp [maskN, hl]
      · intro i h1 h2
        have h3 : i < ops.size := by omega
        by_cases hi : i < n
        · have := hall i hi
          simp only [Array.getD, h1, dif_pos] at this
          simp [maskN, hi]
          simpa using this
        · have := ht i (by omega) h3
          simp only [Array.getD, h1, dif_pos] at this
          simp [maskN, hi]
          simpa using this
    rw [Nat.zero_add, e]
    exact htail us W hG (fun i hi => hf i hi (hall i hi))
  | succ m ih =>
    intro listed us W hl hcl ht hu hG hf
    rw [show m + 1 + K = (m + K) + 1 by omega]
    obtain ⟨i0, hi0, hi0f, hi0l⟩ := exists_least (f := fun i => listed.getD i false) n (by omega)
    refine ⟨fun h0 => ?_, fun i hi => ?_⟩
    · obtain ⟨o, ho, hon⟩ := hE i0 hi0
      have : i0 ∈ Region.ready .any ops listed := by
        rw [mem_ready]
        exact ⟨by rw [hsz hl (by omega)]; exact hi0f, o, ho, fun e he hb => hi0l e.on (hon e he hb)⟩
      rw [h0] at this
      cases this
    · rw [mem_ready] at hi
      obtain ⟨hi1, o, ho, hdep⟩ := hi
      have hilt : i < ops.size := (Array.getElem?_eq_some_iff.1 ho).1
      have hfi : listed.getD i false = false := by rw [← hsz hl hilt]; exact hi1
      have hdw : ∀ j, waits ops i j = true → listed.getD j false = true := by
        intro j hw
        obtain ⟨o', ho', e, he, hb, hon⟩ := waits_spec hw
        rw [ho] at ho'; cases ho'
        subst hon
        exact hdep e he hb
      by_cases hin : i < n
      · refine wpOp_mono ?_ (hop i hin us W hG (fun j hj hw => hf j hj (hdw j hw)))
        rintro a' W' ⟨v, rfl, hG', hFv⟩
        rw [putAll_put (Nat.zero_le i) n (by omega) (fun j _ h2 h3 => hD i hin j (by omega) h3)]
        refine ih _ _ W' (by simp [hl]) ?_ ?_ ?_ (hGt hG hG') ?_
        · intro j oj hjn hj hjl e he hb
          by_cases hji : i = j
          · subst hji
            rw [ho] at hj; cases hj
            exact getD_set_true (hdep e he hb)
          · rw [getD_set_ne false hji] at hjl
            exact getD_set_true (hcl j oj hjn hj hjl e he hb)
        · intro t h1 h2
          rw [getD_set_ne true (by omega)]
          exact ht t h1 h2
        · have := unl_set (f := fun j => listed.getD j false) (g := fun j => (listed.setIfInBounds i true).getD j false) (i := i) hfi (by simp [Array.getD, hl, hilt]) (fun j hj => getD_set_ne false (Ne.symm hj)) n hin
          omega
        · intro j hj hjl
          by_cases hji : j = i
          · subst hji; rw [if_pos rfl]; exact hFv
          · rw [if_neg hji]
            rw [getD_set_ne false (Ne.symm hji)] at hjl
            exact hF _ _ _ _ hG' (hf j hj hjl)
      · exfalso
        have hti := ht i (by omega) hilt
        rw [hi1] at hti
        have h3 := hB3 i (List.mem_range.2 hilt)
        simp only [Bool.or_eq_true, decide_eq_true_eq, List.any_eq_true, List.mem_range, Bool.and_eq_true, beq_iff_eq, Bool.not_eq_true'] at h3
        rcases h3 with ((h3 | h3) | h3) | ⟨j, hj, ⟨hnj, hXj⟩, hw⟩
        · exact hin h3
        · rw [h3] at hti; cases hti
        · -- t0 may come up: so all have come up
          subst h3
          have hall : ∀ d, d < n → listed.getD (n - 1 - d) false = true := by
            intro d
            induction d using Nat.strongRecOn with
            | _ d ihd =>
              intro hd
              have h2 := hB2 (n - 1 - d) (List.mem_range.2 (by omega))
              simp only [List.any_eq_true, List.mem_range, Bool.and_eq_true, Bool.or_eq_true, decide_eq_true_eq, beq_iff_eq] at h2
              obtain ⟨k, hk, ⟨hlt, hkn⟩, hwk⟩ := h2
              by_cases hki : k = i
              · subst hki
                exact hdw _ hwk
              · have hkn' : k < n := by rcases hkn with h | h; exact h; exact absurd h hki
                have hkl := ihd (n - 1 - k) (by omega) (by omega)
                rw [show n - 1 - (n - 1 - k) = k by omega] at hkl
                obtain ⟨ok, hok, e2, he2, hb2, hon2⟩ := waits_spec hwk
                rw [← hon2]
                exact hcl k ok hkn' hok hkl e2 he2 hb2
          have := hall (n - 1 - i0) (by omega)
          rw [show n - 1 - (n - 1 - i0) = i0 by omega, hi0f] at this
          cases this
        · have h4 := ht j hnj hj
          rw [hsz hl hj, hdw j hw, hXj] at h4
          cases h4

/-- The tail's operations, by their numbers: each is the only one that may come up. -/
def seqI (ops : Array Oper) : List Nat → Array Bool → Bool
  | [], listed => (Region.ready .any ops listed).isEmpty
  | t :: ts, listed => decide (Region.ready .any ops listed = [t]) && seqI ops ts (listed.setIfInBounds t true)
theorem wpAny_of_list : ∀ (ts : List Nat) (l : List Oper) (listed : Array Bool) (a : Act) (w : World), (ts.map fun t => ops[t]?) = l.map some → seqI ops ts listed = true → wpList P ops Q l a w → wpAny P .any ops Q ts.length listed a w
  | [], [], _, _, _, _, hB, h => ⟨by simpa [seqI] using hB, h⟩
  | [], _ :: _, _, _, _, hl, _, _ => by simp at hl
  | _ :: _, [], _, _, _, hl, _, _ => by simp at hl
  | t :: ts, o :: l, listed, a, w, hl, hB, h => by
    simp only [List.map_cons, List.cons.injEq] at hl
    simp only [seqI, Bool.and_eq_true, decide_eq_true_eq] at hB
    refine ⟨fun h1 => (by rw [hB.1] at h1; cases h1), fun i hi => ?_⟩
    rw [hB.1] at hi
    have hit : i = t := by simpa using hi
    subst hit
    have hw : wpOp P ops Q i (wpList P ops Q l) a w := by unfold wpOp; simp only [hl.1]; exact h
    exact wpOp_mono (fun a' w' h' => wpAny_of_list ts l _ a' w' hl.2 hB.2 h') hw
end

/-- The law: the operation x yields vx in every world; the first n by facts; the rest, ts, as a list. -/
theorem region_mask {P : Program} {Q : Exit → Act → World → Prop} {id : Nat} {a : Act} {w : World} {l lt : List Oper} {ox : Oper} {fr : (Nat → Value) → Act} (n x t0 : Nat) (vx : Value) (ts ds : List Nat) (F : Nat → Value → World → Prop)
    (hm : P.follows .mixedOrders = true) (hB : headM l.toArray n t0 [x] (a.put ox.dst vx).tmps.size = true) (hds : ((List.range n).all fun i => dstOf l.toArray (0 + i) == ds.getD i 0) = true)
    (hsel : Region.noSelect l.toArray = true) (hox : l.toArray[x]? = some ox) (hfree : Region.free .any l.toArray (Array.replicate l.toArray.size false) x = true) (hready : (Region.ready .any l.toArray (Array.replicate l.toArray.size false)).contains x = true)
    (hnx : (decide (n ≤ x) && decide (x < l.toArray.size)) = true) (hts : decide (l.toArray.size = n + ts.length + 1) = true) (hlt : (ts.map fun t => l.toArray[t]?) = lt.map some) (hseq : seqI l.toArray ts (maskN l.toArray.size n [x]) = true)
    (hQ : ∀ c a d v w, Q (.panic c) (a.put d v) w → Q (.panic c) a w)
    (hwx : Region.wanted ox (yielded l.toArray a.tmps) = true) (hyx : ∀ w, (execOp a.eval ox).run P w = .ok (.value vx) w)
    (hfr : ∀ us, putL ds us 0 n (a.put ox.dst vx) = fr us)
    (hF : ∀ i v W W', Grows W W' → F i v W → F i v W')
    (hop : ∀ i, i < n → ∀ (us : Nat → Value) (W : World), Grows w W → (∀ j, j < n → waits l.toArray i j = true → F j (us j) W) →
      wpOp P l.toArray Q i (fun a' W' => ∃ v, a' = (fr us).put (some (dstOf l.toArray i)) v ∧ Grows W W' ∧ F i v W') (fr us) W)
    (htail : ∀ (us : Nat → Value) (W : World), Grows w W → (∀ i, i < n → F i (us i) W) → wpList P l.toArray Q lt (fr us) W) :
    (Code.region id l.toArray true).wp P Q a w := by
  simp only [Bool.and_eq_true, decide_eq_true_eq] at hnx hts
  refine wp_region_any hm ?_
  have he : ∀ us, putAll l.toArray us 0 n (a.put ox.dst vx) = fr us := fun us => by
    rw [← hfr]
    refine putL_eq n fun i hi => ?_
    have := List.all_eq_true.1 hds i (List.mem_range.2 hi)
    exact eq_of_beq this
  have hd : ∀ {W : World}, Grows w.drew W → Grows w W := fun h => ⟨h.os, h.tape, h.output, h.size, h.block⟩
  have hset : ∀ j d, j < l.toArray.size → ((Array.replicate l.toArray.size false).setIfInBounds x true).getD j d = decide (j = x) := by
    intro j d hj
    have hj' : j < l.length := by simpa using hj
    by_cases h : x = j
    · subst h
      simp [Array.getD, hj']
    · rw [getD_set_ne d h]
      simp [Array.getD, hj', Ne.symm h]
  have hstart : putAll l.toArray (fun j => (a.put ox.dst vx).tmps.getD (dstOf l.toArray j) undef) 0 n (a.put ox.dst vx) = a.put ox.dst vx := by
    refine putAll_start n fun j _ hj => ?_
    simp only [headM, Bool.and_eq_true] at hB
    have h3 := List.all_eq_true.1 hB.1.1.1.2 j (List.mem_range.2 (by omega))
    simp only [Bool.and_eq_true, decide_eq_true_eq] at h3
    exact h3.1.2
  have key := mask_go (P := P) (Q := Q) (ops := l.toArray) (n := n) (t0 := t0) (K := ts.length) (X := [x]) (a0 := a.put ox.dst vx) (w0 := w.drew) Grows (fun h k => h.trans k) F hF hB
    (fun i hi us W hG hf => by rw [he]; exact hop i hi us W (hd hG) hf)
    (fun us W hG hf => by rw [he]; exact wpAny_of_list ts lt _ _ _ hlt hseq (htail us W (hd hG) hf))
    n ((Array.replicate l.toArray.size false).setIfInBounds x true) (fun j => (a.put ox.dst vx).tmps.getD (dstOf l.toArray j) undef) w.drew (by simp)
    (fun j oj hjn _ hjl => by rw [hset j false (by omega)] at hjl; simp at hjl; omega)
    (fun t h1 h2 => by rw [hset t true h2]; simp)
    (by
      have : ∀ k, k ≤ n → unl (fun i => ((Array.replicate l.toArray.size false).setIfInBounds x true).getD i false) k = k := by
        intro k
        induction k with
        | zero => intro _; rfl
        | succ k ih =>
          intro hk
          rw [unl, ih (by omega), hset k false (by omega), if_neg (by simp; omega)]
      exact this n (Nat.le_refl _)) (Grows.refl _)
    (fun i hi hil => by rw [hset i false (by omega)] at hil; simp at hil; omega)
  rw [hstart] at key
  have := wpAny_take (md := .any) hox hsel hfree hready (fun c a w h => hQ c a _ _ w h) (.inl ⟨hwx, hyx⟩) key
  rw [show l.toArray.size = n + ts.length + 1 from hts]
  rw [show l.toArray.size = n + ts.length + 1 from hts] at this
  exact this

/-- The same without such an operation: the first n by facts; each is waited for, in the end, by the next one; then the rest as a list. -/
theorem region_mask0 {P : Program} {Q : Exit → Act → World → Prop} {id : Nat} {a : Act} {w : World} {l : List Oper} {fr : (Nat → Value) → Act} (n t0 : Nat) (ds : List Nat) (F : Nat → Value → World → Prop)
    (hm : P.follows .mixedOrders = true) (hB : headM l.toArray n t0 [] a.tmps.size = true) (hds : ((List.range n).all fun i => dstOf l.toArray (0 + i) == ds.getD i 0) = true)
    (hseq : Region.seqB .any l.toArray (l.drop n).length n (maskN l.toArray.size n []) = true)
    (hfr : ∀ us, putL ds us 0 n a = fr us)
    (hF : ∀ i v W W', Grows W W' → F i v W → F i v W')
    (hop : ∀ i, i < n → ∀ (us : Nat → Value) (W : World), Grows w W → (∀ j, j < n → waits l.toArray i j = true → F j (us j) W) →
      wpOp P l.toArray Q i (fun a' W' => ∃ v, a' = (fr us).put (some (dstOf l.toArray i)) v ∧ Grows W W' ∧ F i v W') (fr us) W)
    (htail : ∀ (us : Nat → Value) (W : World), Grows w W → (∀ i, i < n → F i (us i) W) → wpList P l.toArray Q (l.drop n) (fr us) W) :
    (Code.region id l.toArray true).wp P Q a w := by
  have hn : n ≤ l.toArray.size := by
    simp only [headM, Bool.and_eq_true, decide_eq_true_eq] at hB
    exact hB.1.1.1.1.1.1
  have hts : l.toArray.size = n + (l.drop n).length := by
    have : l.toArray.size = l.length := by simp
    rw [List.length_drop]
    omega
  refine wp_region_any hm ?_
  have he : ∀ us, putAll l.toArray us 0 n a = fr us := fun us => by
    rw [← hfr]
    refine putL_eq n fun i hi => ?_
    have := List.all_eq_true.1 hds i (List.mem_range.2 hi)
    exact eq_of_beq this
  have hd : ∀ {W : World}, Grows w.drew W → Grows w W := fun h => ⟨h.os, h.tape, h.output, h.size, h.block⟩
  have hset : ∀ j d, j < l.toArray.size → (Array.replicate l.toArray.size false).getD j d = false := by
    intro j d hj
    have hj' : j < l.length := by simpa using hj
    simp [Array.getD, hj']
  have hstart : putAll l.toArray (fun j => a.tmps.getD (dstOf l.toArray j) undef) 0 n a = a := by
    refine putAll_start n fun j _ hj => ?_
    simp only [headM, Bool.and_eq_true] at hB
    have h3 := List.all_eq_true.1 hB.1.1.1.2 j (List.mem_range.2 (by omega))
    simp only [Bool.and_eq_true, decide_eq_true_eq] at h3
    exact h3.1.2
  have key := mask_go (P := P) (Q := Q) (ops := l.toArray) (n := n) (t0 := t0) (K := (l.drop n).length) (X := []) (a0 := a) (w0 := w.drew) Grows (fun h k => h.trans k) F hF hB
    (fun i hi us W hG hf => by rw [he]; exact hop i hi us W (hd hG) hf)
    (fun us W hG hf => by rw [he]; exact wpAny_of_seq (l.drop n) n _ _ _ (fun j => by simp [List.getElem?_drop]) hseq (htail us W (hd hG) hf))
    n (Array.replicate l.toArray.size false) (fun j => a.tmps.getD (dstOf l.toArray j) undef) w.drew (by simp)
    (fun j oj hjn _ hjl => by rw [hset j false (by omega)] at hjl; cases hjl)
    (fun t h1 h2 => by rw [hset t true h2]; simp)
    (by
      have : ∀ k, k ≤ n → unl (fun i => (Array.replicate l.toArray.size false).getD i false) k = k := by
        intro k
        induction k with
        | zero => intro _; rfl
        | succ k ih =>
          intro hk
          rw [unl, ih (by omega), hset k false (by omega)]
          simp
      exact this n (Nat.le_refl _)) (Grows.refl _)
    (fun i hi hil => by rw [hset i false (by omega)] at hil; cases hil)
  rw [hstart, ← hts] at key
  exact key

end Go.Proofs.Rf
end
