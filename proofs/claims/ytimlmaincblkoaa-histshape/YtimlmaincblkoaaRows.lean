/-
  No cell of these rows narrows 'for every input' (looked for: loops, veiled, ifaces, maps, wideKeys, modest, calm, conditions, laid).
  DERIVED. THE GIVEN ROWS OF THIS SEAT. 6 by the template 'for every input the law returns true; each argument reads behind the call as it read before'; 0 by the template 'total and deterministic' (their statements: YtimlmaincblkoaaTotals.lean).
  GIVEN WITH THE SEED: the statements are not yours to turn. If you find one false, say at which input.
  Laid BY PROGRAM, IN A SANDBOX (cutbox-rows.mjs): the forced cells as the released guide's own fill.sh prints them over the translation 0e1e26bb76c71754… (all of the seat's roots in one cut). By AI agents, Wed Nov 11 2026. No macro, syntax, notation, axiom, sorry.
-/
import Derived.Test.YtimlmaincblkoaaChecked
import GoSem.Claim
import GoSem.ClaimJoined
import GoSem.ClaimMapViews
import Derived.JoinedTies
import Derived.KernelRfl
namespace Go.Proofs.Ytimlmaincblkoaa
/- THE CELL 'sum', in the pinned program and in every row, IS THE sha256 OF THE DUMP (.gsa) THAT YtimlmaincblkoaaProg.lean LOADS. Nothing in Lean hashes anything: it is a label: what it is worth is what the hold of that sum in a sandbox is worth. -/
noncomputable def Try.pinned : Pinned := { name := "ytimlmaincblkoaa", sum := "0e1e26bb76c71754e3feb73edfd2dbea92474091456c29d48ea9b38ee71e279c", checked := Try.checked }
namespace Rows
def none {H : Type} : Left H := { results := [], args := [] }

/-- 'skylightlaw06.HistPlays': WHATEVER THE INPUT: true; the input reads as it did. -/
def histPlaysSpec : ChangeSpec := { name := "histPlays", fn := fun _ => fun
  | [d1, d2] => { results := [.lit (.bool true)], args := [d1, d2] }
  | _ => none }
def histPlaysRow : OpenClaim := { program := "ytimlmaincblkoaa", sum := "0e1e26bb76c71754e3feb73edfd2dbea92474091456c29d48ea9b38ee71e279c", func := "skylight/skylightlaw06.HistPlays", spec := "histPlays", unfollowed := true, recurses := true, apart := false }
def HistPlaysSaid : Prop := histPlaysRow.holds Try.pinned (OpenSpec.ofChange histPlaysSpec)

/-- ITS FALSE NEIGHBOUR: 'it returns false'. Refute it at one input. -/
def histPlaysWrong : ChangeSpec := { name := "histPlays", fn := fun _ => fun
  | [d1, d2] => { results := [.lit (.bool false)], args := [d1, d2] }
  | _ => none }
def HistPlaysWrongFalsely : Prop := histPlaysRow.holds Try.pinned (OpenSpec.ofChange histPlaysWrong)

/-- 'skylightlaw06.HistRefuses': WHATEVER THE INPUT: true; the input reads as it did. -/
def histRefusesSpec : ChangeSpec := { name := "histRefuses", fn := fun _ => fun
  | [d1, d2, d3] => { results := [.lit (.bool true)], args := [d1, d2, d3] }
  | _ => none }
def histRefusesRow : OpenClaim := { program := "ytimlmaincblkoaa", sum := "0e1e26bb76c71754e3feb73edfd2dbea92474091456c29d48ea9b38ee71e279c", func := "skylight/skylightlaw06.HistRefuses", spec := "histRefuses", unfollowed := true, recurses := true, apart := false }
def HistRefusesSaid : Prop := histRefusesRow.holds Try.pinned (OpenSpec.ofChange histRefusesSpec)

/-- ITS FALSE NEIGHBOUR: 'it returns false'. Refute it at one input. -/
def histRefusesWrong : ChangeSpec := { name := "histRefuses", fn := fun _ => fun
  | [d1, d2, d3] => { results := [.lit (.bool false)], args := [d1, d2, d3] }
  | _ => none }
def HistRefusesWrongFalsely : Prop := histRefusesRow.holds Try.pinned (OpenSpec.ofChange histRefusesWrong)

/-- 'skylightlaw06.HistUnits': WHATEVER THE INPUT: true; the input reads as it did. -/
def histUnitsSpec : ChangeSpec := { name := "histUnits", fn := fun _ => fun
  | [d1, d2, d3] => { results := [.lit (.bool true)], args := [d1, d2, d3] }
  | _ => none }
def histUnitsRow : OpenClaim := { program := "ytimlmaincblkoaa", sum := "0e1e26bb76c71754e3feb73edfd2dbea92474091456c29d48ea9b38ee71e279c", func := "skylight/skylightlaw06.HistUnits", spec := "histUnits", unfollowed := true, recurses := true, apart := false }
def HistUnitsSaid : Prop := histUnitsRow.holds Try.pinned (OpenSpec.ofChange histUnitsSpec)

/-- ITS FALSE NEIGHBOUR: 'it returns false'. Refute it at one input. -/
def histUnitsWrong : ChangeSpec := { name := "histUnits", fn := fun _ => fun
  | [d1, d2, d3] => { results := [.lit (.bool false)], args := [d1, d2, d3] }
  | _ => none }
def HistUnitsWrongFalsely : Prop := histUnitsRow.holds Try.pinned (OpenSpec.ofChange histUnitsWrong)

/-- 'skylightlaw06.HistSums': WHATEVER THE INPUT: true; the input reads as it did. -/
def histSumsSpec : ChangeSpec := { name := "histSums", fn := fun _ => fun
  | [d1, d2] => { results := [.lit (.bool true)], args := [d1, d2] }
  | _ => none }
def histSumsRow : OpenClaim := { program := "ytimlmaincblkoaa", sum := "0e1e26bb76c71754e3feb73edfd2dbea92474091456c29d48ea9b38ee71e279c", func := "skylight/skylightlaw06.HistSums", spec := "histSums", unfollowed := true, recurses := true, apart := false }
def HistSumsSaid : Prop := histSumsRow.holds Try.pinned (OpenSpec.ofChange histSumsSpec)

/-- ITS FALSE NEIGHBOUR: 'it returns false'. Refute it at one input. -/
def histSumsWrong : ChangeSpec := { name := "histSums", fn := fun _ => fun
  | [d1, d2] => { results := [.lit (.bool false)], args := [d1, d2] }
  | _ => none }
def HistSumsWrongFalsely : Prop := histSumsRow.holds Try.pinned (OpenSpec.ofChange histSumsWrong)

/-- 'skylightlaw06.HistShape': WHATEVER THE INPUT: true; the input reads as it did. -/
def histShapeSpec : ChangeSpec := { name := "histShape", fn := fun _ => fun
  | [d1, d2] => { results := [.lit (.bool true)], args := [d1, d2] }
  | _ => none }
def histShapeRow : OpenClaim := { program := "ytimlmaincblkoaa", sum := "0e1e26bb76c71754e3feb73edfd2dbea92474091456c29d48ea9b38ee71e279c", func := "skylight/skylightlaw06.HistShape", spec := "histShape", unfollowed := true, recurses := true, apart := false }
def HistShapeSaid : Prop := histShapeRow.holds Try.pinned (OpenSpec.ofChange histShapeSpec)

/-- ITS FALSE NEIGHBOUR: 'it returns false'. Refute it at one input. -/
def histShapeWrong : ChangeSpec := { name := "histShape", fn := fun _ => fun
  | [d1, d2] => { results := [.lit (.bool false)], args := [d1, d2] }
  | _ => none }
def HistShapeWrongFalsely : Prop := histShapeRow.holds Try.pinned (OpenSpec.ofChange histShapeWrong)

/-- 'skylightlaw06.HistSame': WHATEVER THE INPUT: true; the input reads as it did. -/
def histSameSpec : ChangeSpec := { name := "histSame", fn := fun _ => fun
  | [d1, d2, d3] => { results := [.lit (.bool true)], args := [d1, d2, d3] }
  | _ => none }
def histSameRow : OpenClaim := { program := "ytimlmaincblkoaa", sum := "0e1e26bb76c71754e3feb73edfd2dbea92474091456c29d48ea9b38ee71e279c", func := "skylight/skylightlaw06.HistSame", spec := "histSame", unfollowed := true, recurses := true, apart := false }
def HistSameSaid : Prop := histSameRow.holds Try.pinned (OpenSpec.ofChange histSameSpec)

/-- ITS FALSE NEIGHBOUR: 'it returns false'. Refute it at one input. -/
def histSameWrong : ChangeSpec := { name := "histSame", fn := fun _ => fun
  | [d1, d2, d3] => { results := [.lit (.bool false)], args := [d1, d2, d3] }
  | _ => none }
def HistSameWrongFalsely : Prop := histSameRow.holds Try.pinned (OpenSpec.ofChange histSameWrong)

/- THE SECOND FORM. 'bulk': how many values and letters a reading holds, each counted each time it is reached (what is shared counts as often as it is met; a slice's spare places count too). A statement '..UptoSaid' is the law's where the arguments, and the package variables that the reading takes, are together of bulk at most 1048576: NARROWER than '..Said'. Prove '..Said' where nothing that the law and all that it calls make is longer than what came in: it says more and counts as full. Else prove '..UptoSaid'. A law counts once. -/
mutual
def uptoBulk {H : Type} : DataW H → Nat
  | .lit (.string bytes) => bytes.length + 1
  | .lit _ => 1
  | .nil => 1
  | .ptr d => uptoBulk d + 1
  | .slice elems spare => uptoBulkAll elems + uptoBulkAll spare + 1
  | .agg parts => uptoBulkAll parts + 1
  | .iface _ d => uptoBulk d + 1
  | .map entries => uptoBulkEntries entries + 1
  | .held _ => 1
def uptoBulkAll {H : Type} : List (DataW H) → Nat
  | [] => 0
  | d :: r => uptoBulk d + uptoBulkAll r
def uptoBulkEntries {H : Type} : List (Lit × DataW H) → Nat
  | [] => 0
  | x :: r => uptoBulkEntry x + uptoBulkEntries r
def uptoBulkEntry {H : Type} : Lit × DataW H → Nat
  | (.string bytes, d) => bytes.length + uptoBulk d + 1
  | (_, d) => uptoBulk d + 1
 end
def uptoSmall : (H : Type) → List (DataW H) → Bool := fun _ ds => decide (uptoBulkAll ds ≤ 1048576)
def OpenSpec.upto (s : _root_.Go.ChangeSpec) : _root_.Go.OpenSpec := { _root_.Go.OpenSpec.ofChange s with cond := some uptoSmall }

/-- 'skylightlaw06.HistPlays', WHERE WHAT IT READS IS OF BULK AT MOST 1048576: true; the input reads as it did. -/
def histPlaysUptoRow : OpenClaim := { program := "ytimlmaincblkoaa", sum := "0e1e26bb76c71754e3feb73edfd2dbea92474091456c29d48ea9b38ee71e279c", func := "skylight/skylightlaw06.HistPlays", spec := "histPlays", unfollowed := true, recurses := true, apart := false, narrowed := true }
def HistPlaysUptoSaid : Prop := histPlaysUptoRow.holds Try.pinned (OpenSpec.upto histPlaysSpec)

/-- 'skylightlaw06.HistRefuses', WHERE WHAT IT READS IS OF BULK AT MOST 1048576: true; the input reads as it did. -/
def histRefusesUptoRow : OpenClaim := { program := "ytimlmaincblkoaa", sum := "0e1e26bb76c71754e3feb73edfd2dbea92474091456c29d48ea9b38ee71e279c", func := "skylight/skylightlaw06.HistRefuses", spec := "histRefuses", unfollowed := true, recurses := true, apart := false, narrowed := true }
def HistRefusesUptoSaid : Prop := histRefusesUptoRow.holds Try.pinned (OpenSpec.upto histRefusesSpec)

/-- 'skylightlaw06.HistUnits', WHERE WHAT IT READS IS OF BULK AT MOST 1048576: true; the input reads as it did. -/
def histUnitsUptoRow : OpenClaim := { program := "ytimlmaincblkoaa", sum := "0e1e26bb76c71754e3feb73edfd2dbea92474091456c29d48ea9b38ee71e279c", func := "skylight/skylightlaw06.HistUnits", spec := "histUnits", unfollowed := true, recurses := true, apart := false, narrowed := true }
def HistUnitsUptoSaid : Prop := histUnitsUptoRow.holds Try.pinned (OpenSpec.upto histUnitsSpec)

/-- 'skylightlaw06.HistSums', WHERE WHAT IT READS IS OF BULK AT MOST 1048576: true; the input reads as it did. -/
def histSumsUptoRow : OpenClaim := { program := "ytimlmaincblkoaa", sum := "0e1e26bb76c71754e3feb73edfd2dbea92474091456c29d48ea9b38ee71e279c", func := "skylight/skylightlaw06.HistSums", spec := "histSums", unfollowed := true, recurses := true, apart := false, narrowed := true }
def HistSumsUptoSaid : Prop := histSumsUptoRow.holds Try.pinned (OpenSpec.upto histSumsSpec)

/-- 'skylightlaw06.HistShape', WHERE WHAT IT READS IS OF BULK AT MOST 1048576: true; the input reads as it did. -/
def histShapeUptoRow : OpenClaim := { program := "ytimlmaincblkoaa", sum := "0e1e26bb76c71754e3feb73edfd2dbea92474091456c29d48ea9b38ee71e279c", func := "skylight/skylightlaw06.HistShape", spec := "histShape", unfollowed := true, recurses := true, apart := false, narrowed := true }
def HistShapeUptoSaid : Prop := histShapeUptoRow.holds Try.pinned (OpenSpec.upto histShapeSpec)

/-- 'skylightlaw06.HistSame', WHERE WHAT IT READS IS OF BULK AT MOST 1048576: true; the input reads as it did. -/
def histSameUptoRow : OpenClaim := { program := "ytimlmaincblkoaa", sum := "0e1e26bb76c71754e3feb73edfd2dbea92474091456c29d48ea9b38ee71e279c", func := "skylight/skylightlaw06.HistSame", spec := "histSame", unfollowed := true, recurses := true, apart := false, narrowed := true }
def HistSameUptoSaid : Prop := histSameUptoRow.holds Try.pinned (OpenSpec.upto histSameSpec)

end Rows
end Go.Proofs.Ytimlmaincblkoaa
