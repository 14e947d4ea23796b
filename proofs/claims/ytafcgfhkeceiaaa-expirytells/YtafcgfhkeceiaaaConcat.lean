/- The contracts of slices.Grow and slices.Concat, as level calls them. -/
import Derived.Lib.AppendZeros
import Derived.Test.YtafcgfhkeceiaaaTeller
namespace Go.Proofs.Ytafcgfhkeceiaaa
open Go.RowKit Go.Proofs.Rw

theorem info_sp : (Try.prog.info? 41).map (fun i => (i.zero, i.size, i.bytes)) = some (some (.agg #[.int .u64 0, .int .u64 0]), 2, 16) := by kernel_rfl

/-- A row of buckets of the call's own. -/
abbrev Own (w : World) (base : Nat) (v : Value) (xs : List Sp) : Prop := w.ownsRow base 41 2 v xs.length (spL.cells xs)

set_option maxHeartbeats 1000000 in
theorem grow_any (n : Nat) (hn : n ≤ 10000000) (w : World) :
    Calls Try.prog 50 #[.slice none 0 0, .int .i64 n] w fun e w' => ∃ v, e = .returned v ∧ Own w' w.heap.size v [] ∧ Below w.heap.size w w' := by
  obtain ⟨i0, hi, hz0, hz1, hz2⟩ := info_parts info_sp
  rcases Nat.eq_zero_or_pos n with h0 | h0
  · subst h0
    go_enter Try.func50, Try.ntmps50
    go_wp2
    go_ret
    exact ⟨_, rfl, World.ownsRow_nil _ _ _ _, Below.refl _ _⟩
  · have hr := fun (W : World) (ty : TypeId) => Lib.run_append_nil_zeros (P := Try.prog) W 38 3 ty 41 i0 _ .i64 .i64 Try.underlying38 Try.underlying3 hi hz0 n h0 (by rw [hz1]; decide) (by omega) (by rw [hz2]; omega)
    have hcap := grownCap_ge w n 0 41
    have hcm := grownCap_le_maxLen w n 0 41 (by unfold maxLen; omega)
    have HC := Lib.hid hcm
    unfold maxLen at hcm
    have HR := Lib.hid hr
    clear hr
    go_enter Try.func50, Try.ntmps50
    go_wp2_with (at_builtin; refine Lib.wpList_append_run _ rfl _ _ _ _ rfl _ _ rfl rfl _ _ (HR.out _ _) ?_)
    go_ret
    refine ⟨_, rfl, World.ownsRow.drew (World.ownsRow_made w _ _ (Nat.le_refl _) HC.out ?_), ((Below.refl _ w).alloc (Nat.le_refl _) _).drew⟩
    simp only [Array.size_append, size_zeroCells, List.size_toArray, List.length_cons, List.length_nil]
    omega

def CatAt (xs ys : List Sp) (base : Nat) (w0 wr : World) (v : Value) (j : Value) : Prop :=
  ((j = .int .i64 0 ∧ Own wr base v []) ∨ (j = .int .i64 1 ∧ Own wr base v xs) ∨ (j = .int .i64 2 ∧ Own wr base v (xs ++ ys))) ∧ Below w0.heap.size w0 wr

set_option maxHeartbeats 1000000 in
theorem concat_any (xs ys : List Sp) (hl : xs.length + ys.length ≤ 10000000) (w : World) (b B : Nat) (A1 A2 : Option Addr) (c1 c2 : Nat) (hb : w.heap[b]? = some (.cells #[.slice A1 xs.length c1, .slice A2 ys.length c2] 38))
    (h1 : Lies spL w B (.slice A1 xs.length c1) xs) (h2 : Lies spL w B (.slice A2 ys.length c2) ys) (hB : B ≤ w.heap.size) :
    Calls Try.prog 43 #[.slice (some ⟨b, 0, none⟩) 2 2] w fun e w' => ∃ v, e = .returned v ∧ Own w' w.heap.size v (xs ++ ys) ∧ Below w.heap.size w w' := by
  obtain ⟨b0, b1, _, _⟩ := box2 hb
  have lb := lt_of hb
  have H1 := Lib.hid (h1.mono hB)
  have H2 := Lib.hid (h2.mono hB)
  have hc1 : xs.length ≤ c1 := by obtain ⟨_, _, hv, h1, _⟩ := h1; injection hv with _ _ e3; omega
  have hc2 : ys.length ≤ c2 := by obtain ⟨_, _, hv, h1, _⟩ := h2; injection hv with _ _ e3; omega
  have hg := fun (n : Nat) (hn : n ≤ 10000000) (W : World) => grow_any n hn W
  have HG := Lib.hid hg
  clear hb h1 h2 hg
  go_enter Try.func43, Try.ntmps43
  go_wp2
  go_loop [3, 11] (fun sz j => (j = .int .i64 0 ∧ sz = .int .i64 0) ∨ (j = .int .i64 1 ∧ sz = .int .i64 xs.length) ∨ (j = .int .i64 2 ∧ sz = .int .i64 ((xs.length + ys.length : Nat) : Int))) (fun _ j => 2 - (intOf j).toNat)
  case atStart => exact .inl ⟨rfl, rfl⟩
  case round =>
    rcases hrel with ⟨rfl, rfl⟩ | ⟨rfl, rfl⟩ | ⟨rfl, rfl⟩
    · go_wp2
      exact ⟨.inr (.inl ⟨rfl, rfl⟩), by simp [intOf]⟩
    · go_wp2
      exact ⟨.inr (.inr ⟨rfl, by go_num⟩), by simp [intOf]⟩
    · go_wp2_with (go_at_call 50; refine (HG.out _ hl _).mono ?_; rintro e wn ⟨v, rfl, hv, hn⟩)
      go_loopw [6, 27] (fun v j wr => CatAt xs ys w.heap.size w wr v j) (fun _ j _ => 2 - (intOf j).toNat)
      case atStart => exact ⟨.inl ⟨rfl, hv⟩, hn⟩
      case round =>
        clear hv hn
        obtain ⟨hrel, hbel⟩ := hrel
        have c0 := (hbel.cell (p := ⟨b, 0, none⟩) lb).trans b0
        have c1' := (hbel.cell (p := ⟨b, 1, none⟩) lb).trans b1
        have lb' : b < wr.heap.size := Nat.lt_of_lt_of_le lb hbel.size
        have HB := Lib.hid hbel
        have HS := Lib.hid hbel.size
        clear b0 b1 hbel
        rcases hrel with ⟨rfl, hv⟩ | ⟨rfl, hv⟩ | ⟨rfl, hv⟩
        · go_wp2_with (at_builtin; refine wpList_app 41 _ 16 info_sp Try.underlying38 rfl (by decide) (by decide) _ rfl _ _ rfl w.heap.size _ _ [] xs w.heap.size rfl hv rfl (H1.out.below HB.out) (sp_one _) (by simp; omega) HS.out ?_; intro v' w1 hown' hgrow)
          refine ⟨⟨.inr (.inl ⟨rfl, hown'⟩), HB.out.grown hgrow HS.out (fun k hk => (hv.lt k hk).1)⟩, by simp [intOf]⟩
        · go_wp2_with (at_builtin; refine wpList_app 41 _ 16 info_sp Try.underlying38 rfl (by decide) (by decide) _ rfl _ _ rfl w.heap.size _ _ xs ys w.heap.size rfl hv rfl (H2.out.below HB.out) (sp_one _) hl HS.out ?_; intro v' w1 hown' hgrow)
          refine ⟨⟨.inr (.inr ⟨rfl, hown'⟩), HB.out.grown hgrow HS.out (fun k hk => (hv.lt k hk).1)⟩, by simp [intOf]⟩
        · go_wp2
          go_ret
          exact ⟨_, rfl, hv, HB.out⟩

end Go.Proofs.Ytafcgfhkeceiaaa
