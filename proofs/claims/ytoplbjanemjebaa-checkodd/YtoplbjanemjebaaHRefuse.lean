/- The contract of hist.refusal. -/
import Derived.Test.YtoplbjanemjebaaHLevels
namespace Go.Proofs.Ytoplbjanemjebaa
open Go.RowKit Go.Shelf Go.Proofs.Rw Go.Proofs.Lh Go.Proofs.Rn

theorem box3 {W : World} {b : Nat} {x y z : Value} {t : TypeId} (h : W.heap[b]? = some (.cells #[x, y, z] t)) : W.cell? ⟨b, 0, none⟩ = some x ∧ W.cell? ⟨b, 1, none⟩ = some y ∧ W.cell? ⟨b, 2, none⟩ = some z := by simp [World.cell?, h]

end Go.Proofs.Ytoplbjanemjebaa
