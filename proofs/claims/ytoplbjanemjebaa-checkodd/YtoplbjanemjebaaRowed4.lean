/- The first levels of a slice of slices; a level's last buckets. -/
import Derived.Test.YtoplbjanemjebaaRowed3
namespace Go.Proofs.Rw
open Go Go.RowKit

theorem Levs.take {w : World} {B : Nat} {A : Option Addr} {c : Nat} {ls : List (List Sp)} (h : Levs w B (.slice A ls.length c) ls) (m : Nat) (hm : m ≤ ls.length) : Levs w B (.slice A m c) (ls.take m) := by
  obtain ⟨h0, vs, h1, h2, h4, h3⟩ := h
  have hmv : m ≤ vs.length := by omega
  have hcap : m ≤ c ∧ c ≤ maxLen := by
    obtain ⟨A', cap, hv, h5, h6, _⟩ := h1
    injection hv with _ _ e3
    omega
  have hv2 : Lies valL w B (.slice A vs.length c) vs := by rw [h2]; exact h1
  refine ⟨fun n c' e => ?_, vs.take m, ?_, by simp [h2], fun hn b hb => h4 (fun e => hn (by rw [e]; simp)) b (by cases A with | none => cases hb | some a => exact hb), fun i u l hu hl => ?_⟩
  · injection e with e1 e2 e3
    subst e1
    obtain ⟨a1, a2⟩ := h0 _ _ rfl
    omega
  · exact hv2.take m c hmv hcap.1 hcap.2
  · rw [List.getElem?_take] at hu hl
    split at hu
    · rename_i hlt
      rw [if_pos hlt] at hl
      exact h3 i u l hu hl
    · cases hu

end Go.Proofs.Rw
