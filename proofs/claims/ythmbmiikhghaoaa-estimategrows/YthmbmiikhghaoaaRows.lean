/-
  No cell of these rows narrows 'for every input' (looked for: loops, veiled, ifaces, maps, wideKeys, modest, calm, conditions, laid).
  DERIVED. THE GIVEN ROWS OF THIS SEAT. 5 by the template 'for every input the law returns true; each argument reads behind the call as it read before'; 0 by the template 'total and deterministic' (their statements: YthmbmiikhghaoaaTotals.lean).
  GIVEN WITH THE SEED: the statements are not yours to turn. If you find one false, say at which input.
  Laid BY PROGRAM, IN A SANDBOX (cutbox-rows.mjs): the forced cells as the released guide's own fill.sh prints them over the translation 4165876e46e729a2… (all of the seat's roots in one cut). By AI agents, Wed Nov 11 2026. No macro, syntax, notation, axiom, sorry.
-/
import Derived.Test.YthmbmiikhghaoaaChecked
import GoSem.Claim
import GoSem.ClaimJoined
import GoSem.ClaimMapViews
import Derived.JoinedTies
import Derived.KernelRfl
namespace Go.Proofs.Ythmbmiikhghaoaa
/- THE CELL 'sum', in the pinned program and in every row, IS THE sha256 OF THE DUMP (.gsa) THAT YthmbmiikhghaoaaProg.lean LOADS. Nothing in Lean hashes anything: it is a label: what it is worth is what the hold of that sum in a sandbox is worth. -/
noncomputable def Try.pinned : Pinned := { name := "ythmbmiikhghaoaa", sum := "4165876e46e729a29fb6e434d4af39160e5e755370178dfd7e6cfcafdc698ecc", checked := Try.checked }
namespace Rows
def none {H : Type} : Left H := { results := [], args := [] }

/-- 'skylightlaw08.EstimateTells': WHATEVER THE INPUT: true; the input reads as it did. -/
def estimateTellsSpec : ChangeSpec := { name := "estimateTells", fn := fun _ => fun
  | [d1, d2, d3] => { results := [.lit (.bool true)], args := [d1, d2, d3] }
  | _ => none }
def estimateTellsRow : OpenClaim := { program := "ythmbmiikhghaoaa", sum := "4165876e46e729a29fb6e434d4af39160e5e755370178dfd7e6cfcafdc698ecc", func := "skylight/skylightlaw08.EstimateTells", spec := "estimateTells", unfollowed := true, recurses := true, apart := false }
def EstimateTellsSaid : Prop := estimateTellsRow.holds Try.pinned (OpenSpec.ofChange estimateTellsSpec)

/-- ITS FALSE NEIGHBOUR: 'it returns false'. Refute it at one input. -/
def estimateTellsWrong : ChangeSpec := { name := "estimateTells", fn := fun _ => fun
  | [d1, d2, d3] => { results := [.lit (.bool false)], args := [d1, d2, d3] }
  | _ => none }
def EstimateTellsWrongFalsely : Prop := estimateTellsRow.holds Try.pinned (OpenSpec.ofChange estimateTellsWrong)

/-- 'skylightlaw08.EstimateBound': WHATEVER THE INPUT: true; the input reads as it did. -/
def estimateBoundSpec : ChangeSpec := { name := "estimateBound", fn := fun _ => fun
  | [d1, d2, d3] => { results := [.lit (.bool true)], args := [d1, d2, d3] }
  | _ => none }
def estimateBoundRow : OpenClaim := { program := "ythmbmiikhghaoaa", sum := "4165876e46e729a29fb6e434d4af39160e5e755370178dfd7e6cfcafdc698ecc", func := "skylight/skylightlaw08.EstimateBound", spec := "estimateBound", unfollowed := true, recurses := true, apart := false }
def EstimateBoundSaid : Prop := estimateBoundRow.holds Try.pinned (OpenSpec.ofChange estimateBoundSpec)

/-- ITS FALSE NEIGHBOUR: 'it returns false'. Refute it at one input. -/
def estimateBoundWrong : ChangeSpec := { name := "estimateBound", fn := fun _ => fun
  | [d1, d2, d3] => { results := [.lit (.bool false)], args := [d1, d2, d3] }
  | _ => none }
def EstimateBoundWrongFalsely : Prop := estimateBoundRow.holds Try.pinned (OpenSpec.ofChange estimateBoundWrong)

/-- 'skylightlaw08.EstimateParts': WHATEVER THE INPUT: true; the input reads as it did. -/
def estimatePartsSpec : ChangeSpec := { name := "estimateParts", fn := fun _ => fun
  | [d1, d2, d3] => { results := [.lit (.bool true)], args := [d1, d2, d3] }
  | _ => none }
def estimatePartsRow : OpenClaim := { program := "ythmbmiikhghaoaa", sum := "4165876e46e729a29fb6e434d4af39160e5e755370178dfd7e6cfcafdc698ecc", func := "skylight/skylightlaw08.EstimateParts", spec := "estimateParts", unfollowed := true, recurses := true, apart := false }
def EstimatePartsSaid : Prop := estimatePartsRow.holds Try.pinned (OpenSpec.ofChange estimatePartsSpec)

/-- ITS FALSE NEIGHBOUR: 'it returns false'. Refute it at one input. -/
def estimatePartsWrong : ChangeSpec := { name := "estimateParts", fn := fun _ => fun
  | [d1, d2, d3] => { results := [.lit (.bool false)], args := [d1, d2, d3] }
  | _ => none }
def EstimatePartsWrongFalsely : Prop := estimatePartsRow.holds Try.pinned (OpenSpec.ofChange estimatePartsWrong)

/-- 'skylightlaw08.EstimateDrops': WHATEVER THE INPUT: true; the input reads as it did. -/
def estimateDropsSpec : ChangeSpec := { name := "estimateDrops", fn := fun _ => fun
  | [d1, d2, d3] => { results := [.lit (.bool true)], args := [d1, d2, d3] }
  | _ => none }
def estimateDropsRow : OpenClaim := { program := "ythmbmiikhghaoaa", sum := "4165876e46e729a29fb6e434d4af39160e5e755370178dfd7e6cfcafdc698ecc", func := "skylight/skylightlaw08.EstimateDrops", spec := "estimateDrops", unfollowed := true, recurses := true, apart := false }
def EstimateDropsSaid : Prop := estimateDropsRow.holds Try.pinned (OpenSpec.ofChange estimateDropsSpec)

/-- ITS FALSE NEIGHBOUR: 'it returns false'. Refute it at one input. -/
def estimateDropsWrong : ChangeSpec := { name := "estimateDrops", fn := fun _ => fun
  | [d1, d2, d3] => { results := [.lit (.bool false)], args := [d1, d2, d3] }
  | _ => none }
def EstimateDropsWrongFalsely : Prop := estimateDropsRow.holds Try.pinned (OpenSpec.ofChange estimateDropsWrong)

/-- 'skylightlaw08.EstimateGrows': WHATEVER THE INPUT: true; the input reads as it did. -/
def estimateGrowsSpec : ChangeSpec := { name := "estimateGrows", fn := fun _ => fun
  | [d1, d2, d3] => { results := [.lit (.bool true)], args := [d1, d2, d3] }
  | _ => none }
def estimateGrowsRow : OpenClaim := { program := "ythmbmiikhghaoaa", sum := "4165876e46e729a29fb6e434d4af39160e5e755370178dfd7e6cfcafdc698ecc", func := "skylight/skylightlaw08.EstimateGrows", spec := "estimateGrows", unfollowed := true, recurses := true, apart := false }
def EstimateGrowsSaid : Prop := estimateGrowsRow.holds Try.pinned (OpenSpec.ofChange estimateGrowsSpec)

/-- ITS FALSE NEIGHBOUR: 'it returns false'. Refute it at one input. -/
def estimateGrowsWrong : ChangeSpec := { name := "estimateGrows", fn := fun _ => fun
  | [d1, d2, d3] => { results := [.lit (.bool false)], args := [d1, d2, d3] }
  | _ => none }
def EstimateGrowsWrongFalsely : Prop := estimateGrowsRow.holds Try.pinned (OpenSpec.ofChange estimateGrowsWrong)

/- THE SECOND FORM. 'bulk': how many values and letters a reading holds, each counted each time it is reached (what is shared counts as often as it is met; a slice's spare places count too). A statement '..UptoSaid' is the law's where the arguments, and the package variables that the reading takes, are together of bulk at most 1048576: NARROWER than '..Said'. Prove '..Said' where nothing that the law and all that it calls make is longer than what came in: it says more and counts as full. Else prove '..UptoSaid'. A law counts once. -/
mutual
def uptoBulk {H : Type} : DataW H → Nat
  | .lit (.string bytes) => bytes.length + 1
  | .lit _ => 1
  | .nil => 1
  | .ptr d => uptoBulk d + 1
  | .slice elems spare => uptoBulkAll elems + uptoBulkAll spare + 1
  | .agg parts => uptoBulkAll parts + 1
  | .iface _ d => uptoBulk d + 1
  | .map entries => uptoBulkEntries entries + 1
  | .held _ => 1
def uptoBulkAll {H : Type} : List (DataW H) → Nat
  | [] => 0
  | d :: r => uptoBulk d + uptoBulkAll r
def uptoBulkEntries {H : Type} : List (Lit × DataW H) → Nat
  | [] => 0
  | x :: r => uptoBulkEntry x + uptoBulkEntries r
def uptoBulkEntry {H : Type} : Lit × DataW H → Nat
  | (.string bytes, d) => bytes.length + uptoBulk d + 1
  | (_, d) => uptoBulk d + 1
 end
def uptoSmall : (H : Type) → List (DataW H) → Bool := fun _ ds => decide (uptoBulkAll ds ≤ 1048576)
def OpenSpec.upto (s : _root_.Go.ChangeSpec) : _root_.Go.OpenSpec := { _root_.Go.OpenSpec.ofChange s with cond := some uptoSmall }

/-- 'skylightlaw08.EstimateTells', WHERE WHAT IT READS IS OF BULK AT MOST 1048576: true; the input reads as it did. -/
def estimateTellsUptoRow : OpenClaim := { program := "ythmbmiikhghaoaa", sum := "4165876e46e729a29fb6e434d4af39160e5e755370178dfd7e6cfcafdc698ecc", func := "skylight/skylightlaw08.EstimateTells", spec := "estimateTells", unfollowed := true, recurses := true, apart := false, narrowed := true }
def EstimateTellsUptoSaid : Prop := estimateTellsUptoRow.holds Try.pinned (OpenSpec.upto estimateTellsSpec)

/-- 'skylightlaw08.EstimateBound', WHERE WHAT IT READS IS OF BULK AT MOST 1048576: true; the input reads as it did. -/
def estimateBoundUptoRow : OpenClaim := { program := "ythmbmiikhghaoaa", sum := "4165876e46e729a29fb6e434d4af39160e5e755370178dfd7e6cfcafdc698ecc", func := "skylight/skylightlaw08.EstimateBound", spec := "estimateBound", unfollowed := true, recurses := true, apart := false, narrowed := true }
def EstimateBoundUptoSaid : Prop := estimateBoundUptoRow.holds Try.pinned (OpenSpec.upto estimateBoundSpec)

/-- 'skylightlaw08.EstimateParts', WHERE WHAT IT READS IS OF BULK AT MOST 1048576: true; the input reads as it did. -/
def estimatePartsUptoRow : OpenClaim := { program := "ythmbmiikhghaoaa", sum := "4165876e46e729a29fb6e434d4af39160e5e755370178dfd7e6cfcafdc698ecc", func := "skylight/skylightlaw08.EstimateParts", spec := "estimateParts", unfollowed := true, recurses := true, apart := false, narrowed := true }
def EstimatePartsUptoSaid : Prop := estimatePartsUptoRow.holds Try.pinned (OpenSpec.upto estimatePartsSpec)

/-- 'skylightlaw08.EstimateDrops', WHERE WHAT IT READS IS OF BULK AT MOST 1048576: true; the input reads as it did. -/
def estimateDropsUptoRow : OpenClaim := { program := "ythmbmiikhghaoaa", sum := "4165876e46e729a29fb6e434d4af39160e5e755370178dfd7e6cfcafdc698ecc", func := "skylight/skylightlaw08.EstimateDrops", spec := "estimateDrops", unfollowed := true, recurses := true, apart := false, narrowed := true }
def EstimateDropsUptoSaid : Prop := estimateDropsUptoRow.holds Try.pinned (OpenSpec.upto estimateDropsSpec)

/-- 'skylightlaw08.EstimateGrows', WHERE WHAT IT READS IS OF BULK AT MOST 1048576: true; the input reads as it did. -/
def estimateGrowsUptoRow : OpenClaim := { program := "ythmbmiikhghaoaa", sum := "4165876e46e729a29fb6e434d4af39160e5e755370178dfd7e6cfcafdc698ecc", func := "skylight/skylightlaw08.EstimateGrows", spec := "estimateGrows", unfollowed := true, recurses := true, apart := false, narrowed := true }
def EstimateGrowsUptoSaid : Prop := estimateGrowsUptoRow.holds Try.pinned (OpenSpec.upto estimateGrowsSpec)

end Rows
end Go.Proofs.Ythmbmiikhghaoaa
