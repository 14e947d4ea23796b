/-
  No cell of these rows narrows 'for every input' (looked for: loops, veiled, ifaces, maps, wideKeys, modest, calm, conditions, laid).
  DERIVED. THE GIVEN ROWS OF THIS SEAT. 5 by the template 'for every input the law returns true; each argument reads behind the call as it read before'; 0 by the template 'total and deterministic' (their statements: YtoplbjanemjebaaTotals.lean).
  GIVEN WITH THE SEED: the statements are not yours to turn. If you find one false, say at which input.
  Laid BY PROGRAM, IN A SANDBOX (cutbox-rows.mjs): the forced cells as the released guide's own fill.sh prints them over the translation 43b995d3ee59d228… (all of the seat's roots in one cut). By AI agents, Wed Nov 11 2026. No macro, syntax, notation, axiom, sorry.
-/
import Derived.Test.YtoplbjanemjebaaChecked
import GoSem.Claim
import GoSem.ClaimJoined
import GoSem.ClaimMapViews
import Derived.JoinedTies
import Derived.KernelRfl
namespace Go.Proofs.Ytoplbjanemjebaa
/- THE CELL 'sum', in the pinned program and in every row, IS THE sha256 OF THE DUMP (.gsa) THAT YtoplbjanemjebaaProg.lean LOADS. Nothing in Lean hashes anything: it is a label: what it is worth is what the hold of that sum in a sandbox is worth. -/
noncomputable def Try.pinned : Pinned := { name := "ytoplbjanemjebaa", sum := "43b995d3ee59d228a0f5bc13925c69c7cca15c697d932dc69e95c9e0c1473c93", checked := Try.checked }
namespace Rows
def none {H : Type} : Left H := { results := [], args := [] }

/-- 'skylightlaw09.CheckTells': WHATEVER THE INPUT: true; the input reads as it did. -/
def checkTellsSpec : ChangeSpec := { name := "checkTells", fn := fun _ => fun
  | [d1, d2, d3] => { results := [.lit (.bool true)], args := [d1, d2, d3] }
  | _ => none }
def checkTellsRow : OpenClaim := { program := "ytoplbjanemjebaa", sum := "43b995d3ee59d228a0f5bc13925c69c7cca15c697d932dc69e95c9e0c1473c93", func := "skylight/skylightlaw09.CheckTells", spec := "checkTells", unfollowed := true, recurses := true, apart := false }
def CheckTellsSaid : Prop := checkTellsRow.holds Try.pinned (OpenSpec.ofChange checkTellsSpec)

/-- ITS FALSE NEIGHBOUR: 'it returns false'. Refute it at one input. -/
def checkTellsWrong : ChangeSpec := { name := "checkTells", fn := fun _ => fun
  | [d1, d2, d3] => { results := [.lit (.bool false)], args := [d1, d2, d3] }
  | _ => none }
def CheckTellsWrongFalsely : Prop := checkTellsRow.holds Try.pinned (OpenSpec.ofChange checkTellsWrong)

/-- 'skylightlaw09.CheckMade': WHATEVER THE INPUT: true; the input reads as it did. -/
def checkMadeSpec : ChangeSpec := { name := "checkMade", fn := fun _ => fun
  | [d1, d2, d3] => { results := [.lit (.bool true)], args := [d1, d2, d3] }
  | _ => none }
def checkMadeRow : OpenClaim := { program := "ytoplbjanemjebaa", sum := "43b995d3ee59d228a0f5bc13925c69c7cca15c697d932dc69e95c9e0c1473c93", func := "skylight/skylightlaw09.CheckMade", spec := "checkMade", unfollowed := true, recurses := true, apart := false }
def CheckMadeSaid : Prop := checkMadeRow.holds Try.pinned (OpenSpec.ofChange checkMadeSpec)

/-- ITS FALSE NEIGHBOUR: 'it returns false'. Refute it at one input. -/
def checkMadeWrong : ChangeSpec := { name := "checkMade", fn := fun _ => fun
  | [d1, d2, d3] => { results := [.lit (.bool false)], args := [d1, d2, d3] }
  | _ => none }
def CheckMadeWrongFalsely : Prop := checkMadeRow.holds Try.pinned (OpenSpec.ofChange checkMadeWrong)

/-- 'skylightlaw09.CheckOdd': WHATEVER THE INPUT: true; the input reads as it did. -/
def checkOddSpec : ChangeSpec := { name := "checkOdd", fn := fun _ => fun
  | [d1, d2, d3] => { results := [.lit (.bool true)], args := [d1, d2, d3] }
  | _ => none }
def checkOddRow : OpenClaim := { program := "ytoplbjanemjebaa", sum := "43b995d3ee59d228a0f5bc13925c69c7cca15c697d932dc69e95c9e0c1473c93", func := "skylight/skylightlaw09.CheckOdd", spec := "checkOdd", unfollowed := true, recurses := true, apart := false }
def CheckOddSaid : Prop := checkOddRow.holds Try.pinned (OpenSpec.ofChange checkOddSpec)

/-- ITS FALSE NEIGHBOUR: 'it returns false'. Refute it at one input. -/
def checkOddWrong : ChangeSpec := { name := "checkOdd", fn := fun _ => fun
  | [d1, d2, d3] => { results := [.lit (.bool false)], args := [d1, d2, d3] }
  | _ => none }
def CheckOddWrongFalsely : Prop := checkOddRow.holds Try.pinned (OpenSpec.ofChange checkOddWrong)

/-- 'skylightlaw09.CheckBound': WHATEVER THE INPUT: true; the input reads as it did. -/
def checkBoundSpec : ChangeSpec := { name := "checkBound", fn := fun _ => fun
  | [d1, d2, d3] => { results := [.lit (.bool true)], args := [d1, d2, d3] }
  | _ => none }
def checkBoundRow : OpenClaim := { program := "ytoplbjanemjebaa", sum := "43b995d3ee59d228a0f5bc13925c69c7cca15c697d932dc69e95c9e0c1473c93", func := "skylight/skylightlaw09.CheckBound", spec := "checkBound", unfollowed := true, recurses := true, apart := false }
def CheckBoundSaid : Prop := checkBoundRow.holds Try.pinned (OpenSpec.ofChange checkBoundSpec)

/-- ITS FALSE NEIGHBOUR: 'it returns false'. Refute it at one input. -/
def checkBoundWrong : ChangeSpec := { name := "checkBound", fn := fun _ => fun
  | [d1, d2, d3] => { results := [.lit (.bool false)], args := [d1, d2, d3] }
  | _ => none }
def CheckBoundWrongFalsely : Prop := checkBoundRow.holds Try.pinned (OpenSpec.ofChange checkBoundWrong)

/-- 'skylightlaw09.CheckGrows': WHATEVER THE INPUT: true; the input reads as it did. -/
def checkGrowsSpec : ChangeSpec := { name := "checkGrows", fn := fun _ => fun
  | [d1, d2, d3] => { results := [.lit (.bool true)], args := [d1, d2, d3] }
  | _ => none }
def checkGrowsRow : OpenClaim := { program := "ytoplbjanemjebaa", sum := "43b995d3ee59d228a0f5bc13925c69c7cca15c697d932dc69e95c9e0c1473c93", func := "skylight/skylightlaw09.CheckGrows", spec := "checkGrows", unfollowed := true, recurses := true, apart := false }
def CheckGrowsSaid : Prop := checkGrowsRow.holds Try.pinned (OpenSpec.ofChange checkGrowsSpec)

/-- ITS FALSE NEIGHBOUR: 'it returns false'. Refute it at one input. -/
def checkGrowsWrong : ChangeSpec := { name := "checkGrows", fn := fun _ => fun
  | [d1, d2, d3] => { results := [.lit (.bool false)], args := [d1, d2, d3] }
  | _ => none }
def CheckGrowsWrongFalsely : Prop := checkGrowsRow.holds Try.pinned (OpenSpec.ofChange checkGrowsWrong)

/- THE SECOND FORM. 'bulk': how many values and letters a reading holds, each counted each time it is reached (what is shared counts as often as it is met; a slice's spare places count too). A statement '..UptoSaid' is the law's where the arguments, and the package variables that the reading takes, are together of bulk at most 1048576: NARROWER than '..Said'. Prove '..Said' where nothing that the law and all that it calls make is longer than what came in: it says more and counts as full. Else prove '..UptoSaid'. A law counts once. -/
mutual
def uptoBulk {H : Type} : DataW H → Nat
  | .lit (.string bytes) => bytes.length + 1
  | .lit _ => 1
  | .nil => 1
  | .ptr d => uptoBulk d + 1
  | .slice elems spare => uptoBulkAll elems + uptoBulkAll spare + 1
  | .agg parts => uptoBulkAll parts + 1
  | .iface _ d => uptoBulk d + 1
  | .map entries => uptoBulkEntries entries + 1
  | .held _ => 1
def uptoBulkAll {H : Type} : List (DataW H) → Nat
  | [] => 0
  | d :: r => uptoBulk d + uptoBulkAll r
def uptoBulkEntries {H : Type} : List (Lit × DataW H) → Nat
  | [] => 0
  | x :: r => uptoBulkEntry x + uptoBulkEntries r
def uptoBulkEntry {H : Type} : Lit × DataW H → Nat
  | (.string bytes, d) => bytes.length + uptoBulk d + 1
  | (_, d) => uptoBulk d + 1
 end
def uptoSmall : (H : Type) → List (DataW H) → Bool := fun _ ds => decide (uptoBulkAll ds ≤ 1048576)
def OpenSpec.upto (s : _root_.Go.ChangeSpec) : _root_.Go.OpenSpec := { _root_.Go.OpenSpec.ofChange s with cond := some uptoSmall }

/-- 'skylightlaw09.CheckTells', WHERE WHAT IT READS IS OF BULK AT MOST 1048576: true; the input reads as it did. -/
def checkTellsUptoRow : OpenClaim := { program := "ytoplbjanemjebaa", sum := "43b995d3ee59d228a0f5bc13925c69c7cca15c697d932dc69e95c9e0c1473c93", func := "skylight/skylightlaw09.CheckTells", spec := "checkTells", unfollowed := true, recurses := true, apart := false, narrowed := true }
def CheckTellsUptoSaid : Prop := checkTellsUptoRow.holds Try.pinned (OpenSpec.upto checkTellsSpec)

/-- 'skylightlaw09.CheckMade', WHERE WHAT IT READS IS OF BULK AT MOST 1048576: true; the input reads as it did. -/
def checkMadeUptoRow : OpenClaim := { program := "ytoplbjanemjebaa", sum := "43b995d3ee59d228a0f5bc13925c69c7cca15c697d932dc69e95c9e0c1473c93", func := "skylight/skylightlaw09.CheckMade", spec := "checkMade", unfollowed := true, recurses := true, apart := false, narrowed := true }
def CheckMadeUptoSaid : Prop := checkMadeUptoRow.holds Try.pinned (OpenSpec.upto checkMadeSpec)

/-- 'skylightlaw09.CheckOdd', WHERE WHAT IT READS IS OF BULK AT MOST 1048576: true; the input reads as it did. -/
def checkOddUptoRow : OpenClaim := { program := "ytoplbjanemjebaa", sum := "43b995d3ee59d228a0f5bc13925c69c7cca15c697d932dc69e95c9e0c1473c93", func := "skylight/skylightlaw09.CheckOdd", spec := "checkOdd", unfollowed := true, recurses := true, apart := false, narrowed := true }
def CheckOddUptoSaid : Prop := checkOddUptoRow.holds Try.pinned (OpenSpec.upto checkOddSpec)

/-- 'skylightlaw09.CheckBound', WHERE WHAT IT READS IS OF BULK AT MOST 1048576: true; the input reads as it did. -/
def checkBoundUptoRow : OpenClaim := { program := "ytoplbjanemjebaa", sum := "43b995d3ee59d228a0f5bc13925c69c7cca15c697d932dc69e95c9e0c1473c93", func := "skylight/skylightlaw09.CheckBound", spec := "checkBound", unfollowed := true, recurses := true, apart := false, narrowed := true }
def CheckBoundUptoSaid : Prop := checkBoundUptoRow.holds Try.pinned (OpenSpec.upto checkBoundSpec)

/-- 'skylightlaw09.CheckGrows', WHERE WHAT IT READS IS OF BULK AT MOST 1048576: true; the input reads as it did. -/
def checkGrowsUptoRow : OpenClaim := { program := "ytoplbjanemjebaa", sum := "43b995d3ee59d228a0f5bc13925c69c7cca15c697d932dc69e95c9e0c1473c93", func := "skylight/skylightlaw09.CheckGrows", spec := "checkGrows", unfollowed := true, recurses := true, apart := false, narrowed := true }
def CheckGrowsUptoSaid : Prop := checkGrowsUptoRow.holds Try.pinned (OpenSpec.upto checkGrowsSpec)

end Rows
end Go.Proofs.Ytoplbjanemjebaa
