/- The contract of skylightref05.One. -/
import Derived.RegionTactic
import Derived.ChangeAlike
import Derived.Test.YtimlmaincblkoaaLRef
import Derived.Test.YtimlmaincblkoaaRowed2
namespace Go.Proofs.Ytimlmaincblkoaa
open Go.RowKit Go.Proofs.Rw
open Go.Proofs.Lm (el two pairs wentN stayN leftN went stay one)

theorem lit0' (W : World) (N : Nat) (hN : W.heap.size = N) (base : Nat) (hb : base ≤ N) : Own (W.alloc (.cells #[] 54)) base (.slice (some ⟨N, 0, none⟩) 0 0) [] := by
  subst hN
  exact lit0 W base hb

/-- Two slices of buckets. -/
def Ones (w w' : World) (e : Ending) (xs ys : List Sp) : Prop :=
  ∃ v1 v2, e = .returned (.tuple #[v1, v2]) ∧ Lies spL w' w'.heap.size v1 xs ∧ Lies spL w' w'.heap.size v2 ys ∧ Below w.heap.size w w' ∧ ∀ b, v1.ownBlock = some b → w.heap.size ≤ b ∧ b < w'.heap.size

/-- The same, and that both rows are new. -/
def Ones2 (w w' : World) (e : Ending) (xs ys : List Sp) : Prop :=
  ∃ v1 v2, e = .returned (.tuple #[v1, v2]) ∧ Lies spL w' w'.heap.size v1 xs ∧ Lies spL w' w'.heap.size v2 ys ∧ Below w.heap.size w w' ∧ (∀ b, v1.ownBlock = some b → w.heap.size ≤ b ∧ b < w'.heap.size) ∧ ∀ b, v1.ownBlock = some b ∨ v2.ownBlock = some b → w.heap.size ≤ b ∧ ∃ (cs : Array Value) (fr : Nat × Nat), w'.heap[b]? = some (.cells cs 54 fr)

set_option maxHeartbeats 2000000 in
theorem one_any2 (l : List Sp) (most : Nat) (s : Sp) (hm : 1 ≤ most) (hl : l.length ≤ 1000) (hm2 : most ≤ 1000000) (w : World) (A : Option Addr) (c : Nat) (h1 : Lies spL w w.heap.size (.slice A l.length c) l) :
    Calls Try.prog 35 #[.slice A l.length c, .int .i64 most, .agg #[.int .u64 s.1, .int .u64 s.2]] w fun e w' => Ones2 w w' e (one l most s).1 (one l most s).2 := by
  have H1 := Lib.hid h1
  obtain ⟨xs, hxs⟩ : ∃ xs, l ++ [s] = xs := ⟨_, rfl⟩
  have hxl : xs.length = l.length + 1 := by rw [← hxs]; simp
  have hone : one l most s = if xs.length ≤ most then (xs, []) else (xs.drop 2, [((xs[0]?.getD (0, 0)).1, (xs[1]?.getD (0, 0)).2)]) := by unfold one; rw [hxs]
  have HXS := Lib.hid hxs
  have HXL := Lib.hid hxl
  have HON := Lib.hid hone
  clear h1 hxs hxl hone
  go_enter Try.func35, Try.ntmps35
  go_upto_region 2 with (at_builtin; refine wpList_app 54 _ 16 info_sp Try.underlying51 rfl (by decide) (by decide) _ rfl _ _ rfl w.heap.size _ _ [] l w.heap.size rfl (lit0' _ _ (by simp) w.heap.size (by simp)) rfl ((H1.out.alloc (Nat.le_refl _) _).alloc (by simp) _) (sp_one _) (by simp; omega) (by simp; omega) ?_; intro va w1 ho1 hg1; replace ho1 : Own w1 w.heap.size va l := ho1; obtain ⟨Aa, ca, rfl, _, _⟩ := own_form ho1; have HO1 := Lib.hid ho1; have HG1 := Lib.hid hg1; clear ho1 hg1)
  have hb1 : Below w.heap.size w w1 := (((Below.refl _ w).alloc (Nat.le_refl _) _).alloc (by simp) _).grown HG1.out (by simp; omega) (fun k hk => (World.ownsRow.lt (lit0' (w.alloc (.cells #[.int .u64 s.1, .int .u64 s.2] 54)) _ (by simp) w.heap.size (by simp)) k hk).1)
  have HB1 := Lib.hid hb1
  have hbx : w1.heap[w.heap.size]? = some (.cells #[.int .u64 s.1, .int .u64 s.2] 54) := by
    rw [HG1.out.block _ (by simp; omega) (by show some w.heap.size ≠ some (w.heap.size + 1); simp), Below.heap_alloc _ _ _ (by simp)]
    exact heap_alloc_new w _
  obtain ⟨q0, q1, _, _⟩ := box2 hbx
  have hlt := lt_of hbx
  clear hbx hb1 HG1
  go_upto_region 3 with (at_builtin; refine wpList_app 54 _ 16 info_sp Try.underlying51 rfl (by decide) (by decide) _ rfl _ _ rfl w.heap.size _ _ l [s] _ rfl (HO1.out.alloc _) rfl (lit1 _ _ rfl s.1 s.2) (sp_one _) (by simp; omega) (by have := HB1.out.size; simp; omega) ?_; intro v' w3 ho3 hg3; rw [HXS.out] at ho3; replace ho3 : Own w3 w.heap.size v' xs := ho3; obtain ⟨Ab, cb, rfl, hbl, hbm⟩ := own_form ho3; have HO3 := Lib.hid ho3; have HB3 := Lib.hid ((HB1.out.alloc HB1.out.size _).grown hg3 (by have := HB1.out.size; simp; omega) (fun k hk => (HO1.out.lt k hk).1)); have HBM := Lib.hid hbm; clear ho3 hg3 hbm)
  clear HO1 HB1 H1 q0 q1 hlt
  have hxl := HXL.out
  by_cases hle : xs.length ≤ most
  · have hon := HON.out
    rw [if_pos hle] at hon
    have HON2 := Lib.hid hon
    clear hxl hon HON
    go_wp2
    rw [HON2.out]
    refine bodyPost_ret (results_tmp2 rfl _ _ _) rfl ⟨.slice Ab xs.length cb, .slice none 0 0, rfl, Lies.of_own (L := spL) HO3.out, Lies.nil _ _ (by unfold maxLen; omega), HB3.out, fun b hb => HO3.out.lt b hb, fun b hb => ?_⟩
    rcases hb with hb | hb
    · obtain ⟨cs, hcs⟩ := own_ty HO3.out hb
      exact ⟨(HO3.out.lt b hb).1, cs, _, hcs⟩
    · cases hb
  · have hon := HON.out
    rw [if_neg hle] at hon
    obtain ⟨b, off, rfl, hb, _, hcell⟩ := sp_at (Lies.of_own (L := spL) HO3.out) (by omega)
    obtain ⟨p0, p1⟩ := hcell 0 (by omega)
    obtain ⟨r0, r1⟩ := hcell 1 (by omega)
    have e0 : xs[0]?.getD (0, 0) = xs[0] := by simp [List.getElem?_eq_getElem (show 0 < xs.length by omega)]
    have e1 : xs[1]?.getD (0, 0) = xs[1] := by simp [List.getElem?_eq_getElem (show 1 < xs.length by omega)]
    rw [e0, e1] at hon
    generalize xs[0] = x at *
    generalize xs[1] = y at *
    have h2 : 2 ≤ xs.length := by omega
    have HON2 := Lib.hid hon
    clear hcell e0 e1 hxl hon HON
    simp only [Nat.zero_mul, Nat.add_zero, Nat.one_mul] at p0 p1 r0 r1
    have hd := Lies.drop (Lies.of_own (L := spL) HO3.out) 2 (by omega)
    have HD := Lib.hid hd
    clear hd
    go_upto_region 5 with (fail)
    go_region
    obtain ⟨A', hA'⟩ : ∃ A', (if cb = 2 then some (⟨b, off, none⟩ : Addr) else some ⟨b, off + 4, none⟩) = A' := ⟨_, rfl⟩
    rw [hA']
    have hdr := HD.out A' (fun b' off' e hlt => by
      injection e with e
      injection e with e1 e2 e3
      subst e1 e2
      rw [← hA', if_neg (by omega)]
      rfl)
    have hblk : ∀ c, (Value.slice A' (xs.length - 2) (cb - 2)).ownBlock = some c → w.heap.size ≤ c ∧ c < (w3.alloc (.cells #[.int .u64 x.1, .int .u64 y.2] 54)).drew.heap.size := by
      intro c hcc
      have hbb := HO3.out.lt b rfl
      have : c = b := by
        rw [← hA'] at hcc
        split at hcc <;> (injection hcc with hcc; exact hcc.symm)
      subst this
      refine ⟨hbb.1, ?_⟩
      have := hbb.2
      simp
      omega
    have hty : ∀ c, (Value.slice A' (xs.length - 2) (cb - 2)).ownBlock = some c → ∃ cs, w3.heap[c]? = some (.cells cs 54 (0, 0)) := by
      intro c hcc
      refine own_ty HO3.out ?_
      rw [← hA'] at hcc
      split at hcc <;> exact hcc
    have HTY := Lib.hid hty
    clear hty
    have HBLK := Lib.hid hblk
    have HDR := Lib.hid hdr
    clear hdr HD hA' hblk
    go_wp2
    rw [HON2.out]
    refine bodyPost_ret (results_tmp2 rfl _ _ _) rfl ⟨.slice A' (xs.length - 2) (cb - 2), .slice (some ⟨w3.heap.size, 0, none⟩) 1 1, rfl, ?_, ?_, (HB3.out.alloc HB3.out.size _).drew, HBLK.out, fun b hb => ?_⟩
    · exact ((HDR.out.alloc (Nat.le_refl _) _).mono (by simp))
    · exact (lit1 w3 _ rfl x.1 y.2).mono (by simp)
    · rcases hb with hb | hb
      · obtain ⟨cs, hcs⟩ := HTY.out b hb
        exact ⟨(HBLK.out b hb).1, cs, _, (Below.heap_alloc _ _ _ (lt_of hcs)).trans hcs⟩
      · injection hb with hb
        have hb' : w3.heap.size = b := hb
        subst hb'
        exact ⟨HB3.out.size, _, _, heap_alloc_new w3 _⟩

theorem one_any (l : List Sp) (most : Nat) (s : Sp) (hm : 1 ≤ most) (hl : l.length ≤ 1000) (hm2 : most ≤ 1000000) (w : World) (A : Option Addr) (c : Nat) (h1 : Lies spL w w.heap.size (.slice A l.length c) l) :
    Calls Try.prog 35 #[.slice A l.length c, .int .i64 most, .agg #[.int .u64 s.1, .int .u64 s.2]] w fun e w' => Ones w w' e (one l most s).1 (one l most s).2 :=
  (one_any2 l most s hm hl hm2 w A c h1).mono fun _ _ ⟨v1, v2, a, b, c, d, e, _⟩ => ⟨v1, v2, a, b, c, d, e⟩

end Go.Proofs.Ytimlmaincblkoaa
