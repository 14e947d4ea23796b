/- The contracts of skylightref05.One, and of what stage 5's laws call by themselves: come, ones, awake. -/
import Derived.RegionTactic
import Derived.ChangeAlike
import Derived.Test.YtdejljncodpkeaaLRef
import Derived.Test.YtdejljncodpkeaaRowed2
namespace Go.Proofs.Ytdejljncodpkeaa
open Go.RowKit Go.Proofs.Rw
open Go.Proofs.Lm (el two pairs wentN stayN leftN went stay one)

theorem lit0' (W : World) (N : Nat) (hN : W.heap.size = N) (base : Nat) (hb : base ≤ N) : Own (W.alloc (.cells #[] 33)) base (.slice (some ⟨N, 0, none⟩) 0 0) [] := by
  subst hN
  exact lit0 W base hb

theorem come_yes (a b : Nat) (ha : a ≤ 20) (hb : b ≤ 20) (w : World) (A1 A2 : Option Addr) (c1 c2 : Nat) :
    Calls Try.prog 9 #[.slice A1 a c1, .slice A2 b c2] w fun e w' => e = .returned (.bool true) ∧ w = w' := by
  go_enter Try.func9, Try.ntmps9
  go_wp2
  go_ret
  exact ⟨congrArg (fun z => Ending.returned (.bool z)) (by simp; omega), rfl⟩
theorem come_no (a b : Nat) (h : ¬ (a ≤ 20 ∧ b ≤ 20)) (w : World) (A1 A2 : Option Addr) (c1 c2 : Nat) :
    Calls Try.prog 9 #[.slice A1 a c1, .slice A2 b c2] w fun e w' => e = .returned (.bool false) ∧ w = w' := by
  by_cases ha : a ≤ 20
  · have hb : ¬ (b ≤ 20) := by omega
    clear h
    go_enter Try.func9, Try.ntmps9
    go_wp2
    go_ret
    exact ⟨congrArg (fun z => Ending.returned (.bool z)) (by simp; omega), rfl⟩
  · clear h
    go_enter Try.func9, Try.ntmps9
    go_wp2
    go_ret
    first | exact ⟨rfl, rfl⟩ | exact ⟨congrArg (fun z => Ending.returned (.bool z)) (by simp; omega), rfl⟩

/-- Two slices of buckets. -/
def Ones (w w' : World) (e : Ending) (xs ys : List Sp) : Prop :=
  ∃ v1 v2, e = .returned (.tuple #[v1, v2]) ∧ Lies spL w' w'.heap.size v1 xs ∧ Lies spL w' w'.heap.size v2 ys ∧ Below w.heap.size w w' ∧ ∀ b, v1.ownBlock = some b → w.heap.size ≤ b ∧ b < w'.heap.size

set_option maxHeartbeats 2000000 in
theorem one_any (l : List Sp) (most : Nat) (s : Sp) (hm : 1 ≤ most) (hl : l.length ≤ 1000) (hm2 : most ≤ 1000000) (w : World) (A : Option Addr) (c : Nat) (h1 : Lies spL w w.heap.size (.slice A l.length c) l) :
    Calls Try.prog 17 #[.slice A l.length c, .int .i64 most, .agg #[.int .u64 s.1, .int .u64 s.2]] w fun e w' => Ones w w' e (one l most s).1 (one l most s).2 := by
  have H1 := Lib.hid h1
  obtain ⟨xs, hxs⟩ : ∃ xs, l ++ [s] = xs := ⟨_, rfl⟩
  have hxl : xs.length = l.length + 1 := by rw [← hxs]; simp
  have hone : one l most s = if xs.length ≤ most then (xs, []) else (xs.drop 2, [((xs[0]?.getD (0, 0)).1, (xs[1]?.getD (0, 0)).2)]) := by unfold one; rw [hxs]
  have HXS := Lib.hid hxs
  have HXL := Lib.hid hxl
  have HON := Lib.hid hone
  clear h1 hxs hxl hone
  go_enter Try.func17, Try.ntmps17
  go_upto_region 2 with (at_builtin; refine wpList_app 33 _ 16 info_sp Try.underlying22 rfl (by decide) (by decide) _ rfl _ _ rfl w.heap.size _ _ [] l w.heap.size rfl (lit0' _ _ (by simp) w.heap.size (by simp)) rfl ((H1.out.alloc (Nat.le_refl _) _).alloc (by simp) _) (sp_one _) (by simp; omega) (by simp; omega) ?_; intro va w1 ho1 hg1; replace ho1 : Own w1 w.heap.size va l := ho1; obtain ⟨Aa, ca, rfl, _, _⟩ := own_form ho1; have HO1 := Lib.hid ho1; have HG1 := Lib.hid hg1; clear ho1 hg1)
  have hb1 : Below w.heap.size w w1 := (((Below.refl _ w).alloc (Nat.le_refl _) _).alloc (by simp) _).grown HG1.out (by simp; omega) (fun k hk => (World.ownsRow.lt (lit0' (w.alloc (.cells #[.int .u64 s.1, .int .u64 s.2] 33)) _ (by simp) w.heap.size (by simp)) k hk).1)
  have HB1 := Lib.hid hb1
  have hbx : w1.heap[w.heap.size]? = some (.cells #[.int .u64 s.1, .int .u64 s.2] 33) := by
    rw [HG1.out.block _ (by simp; omega) (by show some w.heap.size ≠ some (w.heap.size + 1); simp), Below.heap_alloc _ _ _ (by simp)]
    exact heap_alloc_new w _
  obtain ⟨q0, q1, _, _⟩ := box2 hbx
  have hlt := lt_of hbx
  clear hbx hb1 HG1
  go_upto_region 3 with (at_builtin; refine wpList_app 33 _ 16 info_sp Try.underlying22 rfl (by decide) (by decide) _ rfl _ _ rfl w.heap.size _ _ l [s] _ rfl (HO1.out.alloc _) rfl (lit1 _ _ rfl s.1 s.2) (sp_one _) (by simp; omega) (by have := HB1.out.size; simp; omega) ?_; intro v' w3 ho3 hg3; rw [HXS.out] at ho3; replace ho3 : Own w3 w.heap.size v' xs := ho3; obtain ⟨Ab, cb, rfl, hbl, hbm⟩ := own_form ho3; have HO3 := Lib.hid ho3; have HB3 := Lib.hid ((HB1.out.alloc HB1.out.size _).grown hg3 (by have := HB1.out.size; simp; omega) (fun k hk => (HO1.out.lt k hk).1)); have HBM := Lib.hid hbm; clear ho3 hg3 hbm)
  clear HO1 HB1 H1 q0 q1 hlt
  have hxl := HXL.out
  by_cases hle : xs.length ≤ most
  · have hon := HON.out
    rw [if_pos hle] at hon
    have HON2 := Lib.hid hon
    clear hxl hon HON
    go_wp2
    rw [HON2.out]
    refine bodyPost_ret (results_tmp2 rfl _ _ _) rfl ⟨.slice Ab xs.length cb, .slice none 0 0, rfl, Lies.of_own (L := spL) HO3.out, Lies.nil _ _ (by unfold maxLen; omega), HB3.out, fun b hb => HO3.out.lt b hb⟩
  · have hon := HON.out
    rw [if_neg hle] at hon
    obtain ⟨b, off, rfl, hb, _, hcell⟩ := sp_at (Lies.of_own (L := spL) HO3.out) (by omega)
    obtain ⟨p0, p1⟩ := hcell 0 (by omega)
    obtain ⟨r0, r1⟩ := hcell 1 (by omega)
    have e0 : xs[0]?.getD (0, 0) = xs[0] := by simp [List.getElem?_eq_getElem (show 0 < xs.length by omega)]
    have e1 : xs[1]?.getD (0, 0) = xs[1] := by simp [List.getElem?_eq_getElem (show 1 < xs.length by omega)]
    rw [e0, e1] at hon
    generalize xs[0] = x at *
    generalize xs[1] = y at *
    have h2 : 2 ≤ xs.length := by omega
    have HON2 := Lib.hid hon
    clear hcell e0 e1 hxl hon HON
    simp only [Nat.zero_mul, Nat.add_zero, Nat.one_mul] at p0 p1 r0 r1
    have hd := Lies.drop (Lies.of_own (L := spL) HO3.out) 2 (by omega)
    have HD := Lib.hid hd
    clear hd
    go_upto_region 5 with (fail)
    go_region
    obtain ⟨A', hA'⟩ : ∃ A', (if cb = 2 then some (⟨b, off, none⟩ : Addr) else some ⟨b, off + 4, none⟩) = A' := ⟨_, rfl⟩
    rw [hA']
    have hdr := HD.out A' (fun b' off' e hlt => by
      injection e with e
      injection e with e1 e2 e3
      subst e1 e2
      rw [← hA', if_neg (by omega)]
      rfl)
    have hblk : ∀ c, (Value.slice A' (xs.length - 2) (cb - 2)).ownBlock = some c → w.heap.size ≤ c ∧ c < (w3.alloc (.cells #[.int .u64 x.1, .int .u64 y.2] 33)).drew.heap.size := by
      intro c hcc
      have hbb := HO3.out.lt b rfl
      have : c = b := by
        rw [← hA'] at hcc
        split at hcc <;> (injection hcc with hcc; exact hcc.symm)
      subst this
      refine ⟨hbb.1, ?_⟩
      have := hbb.2
      simp
      omega
    have HBLK := Lib.hid hblk
    have HDR := Lib.hid hdr
    clear hdr HD hA' hblk
    go_wp2
    rw [HON2.out]
    refine bodyPost_ret (results_tmp2 rfl _ _ _) rfl ⟨.slice A' (xs.length - 2) (cb - 2), .slice (some ⟨w3.heap.size, 0, none⟩) 1 1, rfl, ?_, ?_, (HB3.out.alloc HB3.out.size _).drew, HBLK.out⟩
    · exact ((HDR.out.alloc (Nat.le_refl _) _).mono (by simp))
    · exact (lit1 w3 _ rfl x.1 y.2).mono (by simp)

set_option maxHeartbeats 1000000 in
theorem ones_any (l : List Sp) (many t : Nat) (hl : l.length ≤ 1000000) (w : World) (A : Option Addr) (c : Nat) (h1 : Lies spL w w.heap.size (.slice A l.length c) l) :
    Calls Try.prog 18 #[.slice A l.length c, .int .u64 many, .int .u64 t] w fun e w' => ∃ v, e = .returned v ∧ Own w' w.heap.size v (l ++ List.replicate (min many 100) (t, t)) ∧ Below w.heap.size w w' := by
  have H1 := Lib.hid h1
  clear h1
  obtain ⟨g, hg⟩ : ∃ g, min many 100 = g := ⟨_, rfl⟩
  rw [hg]
  have HG := Lib.hid hg
  have hg1 : g ≤ 100 := by omega
  clear hg
  go_enter Try.func18, Try.ntmps18
  go_wp2_with (at_builtin; refine wpList_app 33 _ 16 info_sp Try.underlying22 rfl (by decide) (by decide) _ rfl _ _ rfl w.heap.size _ _ [] l w.heap.size rfl (lit0 w w.heap.size (Nat.le_refl _)) rfl (H1.out.alloc (Nat.le_refl _) _) (sp_one _) (by simp; omega) (by simp) ?_; intro va w1 ho1 hg1; replace ho1 : Own w1 w.heap.size va l := ho1; have HO1 := Lib.hid ho1; have HB1 := Lib.hid (((Below.refl _ w).alloc (Nat.le_refl _) _).grown hg1 (by simp) (fun k hk => (World.ownsRow.lt (lit0 w w.heap.size (Nat.le_refl _)) k hk).1)); clear ho1 hg1)
  go_loopw [7, 8] (fun v j wr => ∃ k : Nat, j = .int .u64 k ∧ k ≤ g ∧ Own wr w.heap.size v (l ++ List.replicate k (t, t)) ∧ Below w.heap.size w wr) (fun _ j _ => g - (intOf j).toNat)
  case atStart => exact ⟨0, rfl, Nat.zero_le _, by simpa using HO1.out, HB1.out⟩
  case round =>
    clear HO1 HB1
    obtain ⟨k, rfl, hk, hown, hbel⟩ := hrel
    have HOWN := Lib.hid hown
    have HBEL := Lib.hid hbel
    have hgp := HG.out
    by_cases hlt : k < g
    · have d1 : k < many := by omega
      have d2 : (k : Int) < 100 := by omega
      clear hown hbel hgp
      go_wp2_with (at_builtin; refine wpList_app 33 _ 16 info_sp Try.underlying22 rfl (by decide) (by decide) _ rfl _ _ rfl w.heap.size _ _ (l ++ List.replicate k (t, t)) [(t, t)] _ rfl (HOWN.out.alloc _) rfl (lit1 _ _ rfl t t) (sp_one _) (by simp; omega) (by have := HBEL.out.size; simp; omega) ?_; intro v' w3 ho3 hg3; have HO3 := Lib.hid ho3; have HG3 := Lib.hid hg3; clear ho3 hg3)
      refine ⟨⟨k + 1, by go_num, hlt, ?_, (HBEL.out.alloc HBEL.out.size _).grown HG3.out (by have := HBEL.out.size; simp; omega) (fun j hj => (HOWN.out.lt j hj).1)⟩, by simp [intOf]; omega⟩
      have ho := HO3.out
      rw [List.append_assoc, ← List.replicate_succ'] at ho
      exact ho
    · have e : k = g := by omega
      subst e
      obtain ⟨Av, cv, rfl, _, _⟩ := own_form hown
      by_cases hkm : k < many
      · have d2 : decide ((k : Int) < 100) = false := by simp; omega
        clear hown hbel hgp
        go_wp2
        go_ret
        exact ⟨_, rfl, HOWN.out, HBEL.out⟩
      · clear hown hbel hgp
        go_wp2
        go_ret
        exact ⟨_, rfl, HOWN.out, HBEL.out⟩

set_option maxRecDepth 100000 in
set_option maxHeartbeats 2000000 in
theorem awake_any (w : World) : Calls Try.prog 8 #[] w fun e w' => e = .returned (.bool true) ∧ Below w.heap.size w w' := by
  have hp := push_any [(1, 2)] [] 2 3 9 (by decide) (by decide) (by decide) (w.alloc (.cells #[.int .u64 1, .int .u64 2] 33)) (w.heap.size + 1) (some ⟨w.heap.size, 0, none⟩) none 1 0 (lit1 w _ rfl 1 2) (Lies.nil _ _ (by decide)) (by simp)
  have e1 : stay ([(1, 2)] ++ []) 9 3 (roomOf 2) = [(9, 9), (9, 9)] := by decide
  have e2 : went ([(1, 2)] ++ []) 9 3 (roomOf 2) = [(1, 9)] := by decide
  have e3 : leftN ([(1, 2)] ++ [] : List Sp).length 3 (roomOf 2) = 0 := by decide
  rw [e1, e2, e3] at hp
  have HP := Lib.hid hp
  clear hp e1 e2 e3
  go_enter Try.func8, Try.ntmps8
  go_upto_region 2 with (go_at_call 10; refine HP.out.mono ?_; rintro e wn ⟨b1, b2, rfl, h1, h2, hne, o1, o2, hb⟩)
  have c0 : wn.cell? ⟨b2, 0, none⟩ = some (.int .u64 1) := o2.cellAt 0 (by decide)
  have c1 : wn.cell? ⟨b2, 1, none⟩ = some (.int .u64 9) := o2.cellAt 1 (by decide)
  have d0 : wn.cell? ⟨b1, 2, none⟩ = some (.int .u64 9) := o1.cellAt 2 (by decide)
  have d1 : wn.cell? ⟨b1, 3, none⟩ = some (.int .u64 9) := o1.cellAt 3 (by decide)
  have l1 : b1 < wn.heap.size := (o1.lt b1 rfl).2
  have l2 : b2 < wn.heap.size := (o2.lt b2 rfl).2
  have m1 : ∀ W, Calls Try.prog 13 #[.int .i64 4, .int .i64 0] W fun e w' => e = .returned (.int .i64 5) ∧ W = w' := fun W => most_any 4 0 (by decide) W
  have m2 : ∀ W, Calls Try.prog 13 #[.int .i64 5, .int .i64 1] W fun e w' => e = .returned (.int .i64 4) ∧ W = w' := fun W => most_any 5 1 (by decide) W
  have m3 : ∀ W, Calls Try.prog 15 #[.int .i64 5, .int .i64 1] W fun e w' => e = .returned (.int .i64 3) ∧ W = w' := fun W => least_any 5 1 (by decide) W
  have M1 := Lib.hid m1
  have M2 := Lib.hid m2
  have M3 := Lib.hid m3
  have HB := Lib.hid (((Below.refl w.heap.size w).alloc (Nat.le_refl _) _).trans (hb.mono (by simp)))
  clear m1 m2 m3 h1 h2 hne o1 o2 hb HP
  go_wp2_with (first
    | (go_at_call 13; (with_reducible refine (M1.out _).mono ?_); rintro e wm ⟨rfl, rfl⟩)
    | (go_at_call 13; (with_reducible refine (M2.out _).mono ?_); rintro e wm ⟨rfl, rfl⟩)
    | (go_at_call 15; (with_reducible refine (M3.out _).mono ?_); rintro e wm ⟨rfl, rfl⟩))
  go_ret
  exact ⟨rfl, HB.out⟩

end Go.Proofs.Ytdejljncodpkeaa
