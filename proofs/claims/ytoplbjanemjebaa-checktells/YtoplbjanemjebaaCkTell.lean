/- For CheckTells: how many buckets few levels have. -/
import Derived.Test.YtoplbjanemjebaaCkRef2
import Derived.Test.YtoplbjanemjebaaCkAwk
import Derived.Test.YtoplbjanemjebaaRowed5
import Derived.Test.YtoplbjanemjebaaFacts
import Derived.Test.YtoplbjanemjebaaFacts2
namespace Go.Proofs.Lh
theorem cnt_few40 (ls : Lv) (h : ∀ i, (lev ls i).length ≤ 40) : cnt ls ≤ 40 * ls.length := by
  suffices g : ∀ j, j ≤ ls.length → cnt (ls.take j) ≤ 40 * j by
    have := g ls.length (Nat.le_refl _)
    rwa [List.take_length] at this
  intro j
  induction j with
  | zero => intro _; simp [cnt]
  | succ j ih =>
    intro hj
    have h1 := h j
    rw [lev_lt (by omega)] at h1
    rw [cnt_take (by omega)]
    have := ih (by omega)
    omega
end Go.Proofs.Lh
