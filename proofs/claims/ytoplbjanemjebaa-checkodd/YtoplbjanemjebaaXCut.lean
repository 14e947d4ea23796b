/- The contract of expiry.Drop's closure: a level loses its oldest bucket. -/
import Derived.RegionTactic
import Derived.ChangeAlike
import Derived.Test.YtoplbjanemjebaaXOld
namespace Go.Proofs.Ytoplbjanemjebaa
open Go.RowKit Go.Shelf Go.Proofs.Rw Go.Proofs.Lh

theorem own_take {T : TypeId} {Z : Nat → Prop} {w : World} {base g n c : Nat} {ls : Lv} (h : OwnLevs T Z w base (.slice (some ⟨g, 0, none⟩) n c) ls) (m : Nat) (hm : m ≤ ls.length) : OwnLevs T Z w base (.slice (some ⟨g, 0, none⟩) m c) (ls.take m) := by
  obtain ⟨vs, h1, h2, h3⟩ := h
  refine ⟨vs.take m, ?_, by simp [h2], fun i u l hu hl => ?_⟩
  · have hl : (vs.take m).length = m := by rw [List.length_take]; omega
    rw [hl]
    refine ⟨by rw [hl]; omega, .inr ?_⟩
    rcases h1.2 with ⟨e, _⟩ | ⟨g', cap, cur, e, hb, hg, hc, hm', hs, ht⟩
    · cases e
    · injection e with e1 e2 e3
      injection e1 with e1
      injection e1 with e1
      subst e1 e3
      refine ⟨g, c, cur, rfl, hb, hg, by omega, hm', hs, ?_⟩
      rw [← ht, List.take_take]
      congr 1
      omega
  · rw [List.getElem?_take] at hu hl
    split at hu
    · rename_i hlt
      rw [if_pos hlt] at hl
      exact h3 i u l hu hl
    · cases hu

/-- A level of a row of the call's own. -/
theorem own_at {T : TypeId} {Z : Nat → Prop} {w : World} {base g n c : Nat} {ls : Lv} (h : OwnLevs T Z w base (.slice (some ⟨g, 0, none⟩) n c) ls) (i : Nat) (hi : i < ls.length) :
    ∃ Ai ci, w.cell? ⟨g, i, none⟩ = some (.slice Ai ls[i].length ci) ∧ ls[i].length ≤ ci ∧ ci ≤ maxLen ∧ Lies spL w w.heap.size (.slice Ai ls[i].length ci) ls[i] ∧ (ls[i] ≠ [] → ∀ b, (Value.slice Ai ls[i].length ci).ownBlock = some b → Z b ∧ b ≠ g ∧ Ty w 44 b) := by
  obtain ⟨vs, h1, h2, h3⟩ := h
  have hn : n = vs.length := own_len h1
  subst hn
  have hiv : i < vs.length := by omega
  obtain ⟨hL, hz⟩ := h3 i vs[i] ls[i] (List.getElem?_eq_getElem hiv) (List.getElem?_eq_getElem hi)
  obtain ⟨Ai, ci, hu, h4, h5, h6⟩ := hL.form
  have e := h1.cellAt i (by omega)
  rw [List.getElem?_eq_getElem hiv, hu] at e
  rw [hu] at hz
  refine ⟨Ai, ci, e, h4, h5, h6, fun hn b hb => ?_⟩
  obtain ⟨z1, z2, z3⟩ := hz hn b hb
  exact ⟨z1, fun e => z2 (by rw [e]; rfl), z3⟩
theorem lies_zone {w : World} {S B : Nat} {u : Value} {l : List Sp} (h : Lies spL w S u l) (hz : l ≠ [] → ∀ b, u.ownBlock = some b → b < B) : Lies spL w B u l := by
  obtain ⟨A, cap, rfl, h1, h2, h3⟩ := h
  refine ⟨A, cap, rfl, h1, h2, ?_⟩
  rcases h3 with h3 | ⟨b, off, hb, rfl, hc⟩
  · exact .inl h3
  · by_cases hl : l = []
    · exact .inl hl
    · exact .inr ⟨b, off, hz hl b rfl, rfl, hc⟩

set_option maxHeartbeats 1000000 in
theorem cut_any (p g m c i : Nat) (w : World) (base : Nat) (Z : Nat → Prop) (L : Lv) (l : List Sp) (hp : w.heap[p]? = some (.cells #[.slice (some ⟨g, 0, none⟩) m c] 22)) (ho : OwnL Z w base (.slice (some ⟨g, 0, none⟩) m c) L) (hi : i < L.length) (hl : L[i] = l) (hn : 0 < l.length) (hl2 : l.length ≤ 1000000) :
    Calls Try.prog 31 #[.int .i64 (i : Int), .pointer (some ⟨p, 0, none⟩)] w fun e w' => e = .returned (.tuple #[]) ∧ OwnL Z w' base (.slice (some ⟨g, 0, none⟩) m c) (L.set i (l.drop 1)) ∧ w.grownBy w' (some g) := by
  have hml : m = L.length := by
    obtain ⟨A, cap, e, -, -⟩ := ho.form
    injection e
  obtain ⟨Ai, ci, q0, k1, k2, hL, hz⟩ := own_at ho i hi
  obtain ⟨-, hf⟩ := ho.cell i hi
  have lg := (ho.lt g rfl).2
  obtain ⟨p0, p1⟩ := box1 hp
  have lp := lt_of hp
  rw [hl] at q0 k1 hL hz
  obtain ⟨b2, off2, rfl, hb2, -, -⟩ := sp_at hL hn
  have him : i < m := by omega
  have HO := Lib.hid ho
  have HL := Lib.hid hL
  have HZ := Lib.hid (hz fun e => by rw [e] at hn; simp at hn)
  obtain ⟨n, hn'⟩ : ∃ n, l.length = n + 1 := ⟨l.length - 1, by omega⟩
  rw [hn'] at q0 k1
  have HNN := Lib.hid hn'
  have hn1 : n + 1 ≤ 1000000 := by omega
  clear hp ho hl hml hL hz hn hl2 hn' hi
  go_enter Try.func31, Try.ntmps31
  go_upto_region 0 with (fail)
  go_region
  obtain ⟨A', hA'⟩ : ∃ A', (if ci = 1 then some (⟨b2, off2, none⟩ : Addr) else some ⟨b2, off2 + 2, none⟩) = A' := ⟨_, rfl⟩
  rw [hA']
  have hL1 := HL.out.drop 1 (by rw [HNN.out]; omega) A' (by
    intro b off e h1
    injection e with e
    injection e with e1 e2
    subst e1 e2
    rw [← hA', if_neg (by omega)]
    rfl)
  rw [HNN.out, show n + 1 - 1 = n by omega] at hL1
  have hob : ∀ b, (Value.slice A' n (ci - 1)).ownBlock = some b → b = b2 := by
    intro b hb
    rw [← hA'] at hb
    split at hb <;> (injection hb with hb; exact hb.symm)
  have hst := HO.out.set i hL1 (fun _ b hb => by rw [hob b hb]; exact HZ.out b2 rfl)
  obtain ⟨s1, s2⟩ := hst
  refine bodyPost_end (results_none rfl _ _ _) rfl ⟨rfl, ?_, ?_⟩
  · exact s1.grow (Below.refl _ _).drew
  · exact grown_trans s2 (grown_below (Below.refl _ _).drew)

end Go.Proofs.Ytoplbjanemjebaa
