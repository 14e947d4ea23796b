/- The contracts of hist's small functions: mayBe, at, Last, New, slices.Equal and slices.Clone as hist calls them. -/
import Derived.RegionTactic
import Derived.BigQuiet
import Derived.WalkSpells
import Derived.Test.YtoplbjanemjebaaLRef
import Derived.Test.YtoplbjanemjebaaRowed3
import Derived.Test.YtoplbjanemjebaaHiMath2
namespace Go.Proofs.Ytoplbjanemjebaa
open Go.RowKit Go.Proofs.Rw Go.Proofs.Lh

theorem ret_b {a b : Bool} (h : a = b) : Ending.returned (.bool a) = .returned (.bool b) := by rw [h]

/-- A histogram as a value. -/
abbrev hv (k g : Int) (s : Value) : Value := .agg #[.int .i64 k, .int .i64 g, s]

/-- What Last tells. -/
abbrev lastV (ls : Lv) : Ending := .returned (.tuple #[.int .u64 (((lastOf ls).getD 0 : Nat) : Int), .bool (lastOf ls).isSome])
theorem lastOf_nil {ls : Lv} (h : (lev ls 0).length = 0) : lastOf ls = none := by
  cases ls with
  | nil => rfl
  | cons l ls =>
    have : l = [] := List.eq_nil_of_length_eq_zero h
    subst this
    rfl
theorem lastOf_at {ls : Lv} {n : Nat} (h : n + 1 = (lev ls 0).length) : lastOf ls = some (lev ls 0)[n].2 := by
  cases ls with
  | nil => simp [lev] at h
  | cons l ls =>
    have e : lev (l :: ls) 0 = l := rfl
    simp only [e] at h ⊢
    rw [lastOf, List.getLast?_eq_getElem?, show l.length - 1 = n by omega, List.getElem?_eq_getElem (by omega)]
    rfl

theorem sp_type : Try.prog.underlying 44 = some (.struct (Try.prog.fieldsOf 44)) := by kernel_rfl
theorem sp_held : Try.prog.stoodInHeld 44 = false := by kernel_rfl
theorem sp_eq (d : Nat) (a b c e : Int) (w : World) : (Op.equalIn (d + 2) 44 (.agg #[.int .u64 a, .int .u64 b]) (.agg #[.int .u64 c, .int .u64 e])).run Try.prog w = .ok (a == c && b == e) w := by
  rw [run_equalIn_agg w (d + 1) _ _ _ sp_type sp_held]
  simp [go_sem, Try.underlying44, Try.underlying26]
  by_cases h1 : a = c <;> by_cases h2 : b = e <;> simp [h1, h2]
theorem sp_neq (a b c e : Int) (w : World) : (binOp .neq 44 (.agg #[.int .u64 a, .int .u64 b]) (.agg #[.int .u64 c, .int .u64 e])).run Try.prog w = .ok (.bool (!(a == c && b == e))) w := by
  rw [run_neq_struct, show (10000 : Nat) = 9998 + 2 from rfl, sp_eq]
  rfl
theorem sp_guard (op : BinOp) (x y : Operand) (xs ys : Array Value) (w : World) : (eqGuard op 44 x y (.agg xs) (.agg ys)).run Try.prog w = .ok () w := run_eqGuard_agg w op _ x y xs ys (by kernel_rfl)
attribute [local go_sem] sp_neq sp_guard

/-- What New and Add tell: a histogram, and an error's number. -/
abbrev hret (h : Value) (e : Int) : Ending := .returned (.tuple #[h, .int .i64 e])

theorem info_row : (Try.prog.info? 45).map (fun i => (i.zero, i.size, i.bytes)) = some (some (.slice none 0 0), 1, 24) := by kernel_rfl
/-- A row of the call's own, of levels. -/
abbrev OwnL (Z : Nat → Prop) (w : World) (base : Nat) (v : Value) (ls : Lv) : Prop := OwnLevs 45 Z w base v ls

theorem clone_any (ls : Lv) (w : World) (B : Nat) (hB : B ≤ w.heap.size) (A : Option Addr) (c : Nat) (h : Levs w B (.slice A ls.length c) ls) (hl : ls.length ≤ 1000000) :
    Calls Try.prog 30 #[.slice A ls.length c] w fun e w' => ∃ v, e = .returned v ∧ OwnL (fun b => b < B) w' w.heap.size v ls ∧ Below w.heap.size w w' := by
  obtain ⟨h0, vs, h1, h2, -, h3⟩ := h
  have qnil : ∀ (w : World) (a : Option Addr) (n c : Nat), (binOp .eql 22 (.slice a n c) (.slice none 0 0)).run Try.prog w = .ok (.bool a.isNone) w := fun w a n c => Lib.run_eql_slice_nil w _ _ _ _ _ _ _ Try.underlying22
  have HL := Lib.hid h1
  have H2 := Lib.hid h2
  have H3 := Lib.hid h3
  obtain ⟨n, hn⟩ : ∃ n, ls.length = n := ⟨_, rfl⟩
  rw [hn]
  have HN := Lib.hid hn
  rw [hn] at hl
  cases A with
  | none =>
    obtain ⟨e1, e2⟩ := h0 _ _ rfl
    have hz : n = 0 := by omega
    subst e2 hz
    clear h0 h1 h2 h3 hn e1
    go_enter Try.func30, Try.ntmps30
    go_wp2
    go_ret
    have e : ls = [] := List.eq_nil_of_length_eq_zero HN.out
    rw [e]
    exact ⟨_, rfl, OwnLevs.nil _ _ _ _, Below.refl _ _⟩
  | some ad =>
    have hone : ∀ y ∈ vs, ∀ u ∈ valL.enc y, u.oneCell' = true := by
      intro y hy u hu
      rw [show valL.enc y = [y] from rfl, List.mem_singleton] at hu
      subst hu
      obtain ⟨i, hi, rfl⟩ := List.getElem_of_mem hy
      exact lies_one (h3 i vs[i] (ls[i]'(by rw [← h2]; exact hi)) (List.getElem?_eq_getElem hi) (List.getElem?_eq_getElem _)).1
    have HONE := Lib.hid hone
    clear h0 h1 h2 h3 hn hone
    have ho : ∀ W : World, W.heap.size = w.heap.size → (W.alloc (.cells #[] 45)).ownsRow w.heap.size 45 1 (.slice (some ⟨W.heap.size, 0, none⟩) 0 0) ([] : List Value).length (valL.cells []) := fun W hW => own_new (L := valL) W 45 #[] 0 w.heap.size [] rfl rfl (by omega) (by unfold maxLen; omega)
    have HO := Lib.hid ho
    clear ho
    go_enter Try.func30, Try.ntmps30
    go_wp2_with (at_builtin; refine wpList_app2 (L := valL) 45 _ 24 info_row Try.underlying22 rfl (by decide) (by decide) _ rfl _ _ rfl w.heap.size _ _ [] vs B rfl (HO.out w rfl) rfl (by have := HL.out; rw [HN.out] at this; exact this.alloc hB _) HONE.out (by have := H2.out; have := HN.out; simp; omega) (by simp) ?_; intro v' w1 ho1 hg1 _; rw [valL_cells, List.nil_append] at ho1)
    go_ret
    have hb : Below w.heap.size w w1 := ((Below.refl _ w).alloc (Nat.le_refl _) _).grown hg1 (by simp) (fun k hk => ((HO.out w rfl).lt k hk).1)
    exact ⟨_, rfl, OwnLevs.clone H2.out H3.out hB hb ho1 (Nat.le_refl _), hb⟩

end Go.Proofs.Ytoplbjanemjebaa
