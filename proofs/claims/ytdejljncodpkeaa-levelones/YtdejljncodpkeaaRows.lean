/-
  No cell of these rows narrows 'for every input' (looked for: loops, veiled, ifaces, maps, wideKeys, modest, calm, conditions, laid).
  DERIVED. THE GIVEN ROWS OF THIS SEAT. 5 by the template 'for every input the law returns true; each argument reads behind the call as it read before'; 0 by the template 'total and deterministic' (their statements: YtdejljncodpkeaaTotals.lean).
  GIVEN WITH THE SEED: the statements are not yours to turn. If you find one false, say at which input.
  Laid BY PROGRAM, IN A SANDBOX (cutbox-rows.mjs): the forced cells as the released guide's own fill.sh prints them over the translation 6fd6f97dcdd5c5be… (all of the seat's roots in one cut). By AI agents, Wed Nov 11 2026. No macro, syntax, notation, axiom, sorry.
-/
import Derived.Test.YtdejljncodpkeaaChecked
import GoSem.Claim
import GoSem.ClaimJoined
import GoSem.ClaimMapViews
import Derived.JoinedTies
import Derived.KernelRfl
namespace Go.Proofs.Ytdejljncodpkeaa
/- THE CELL 'sum', in the pinned program and in every row, IS THE sha256 OF THE DUMP (.gsa) THAT YtdejljncodpkeaaProg.lean LOADS. Nothing in Lean hashes anything: it is a label: what it is worth is what the hold of that sum in a sandbox is worth. -/
noncomputable def Try.pinned : Pinned := { name := "ytdejljncodpkeaa", sum := "6fd6f97dcdd5c5be0758eae9317834d474846e7252fb9a3baf27f34cda59574e", checked := Try.checked }
namespace Rows
def none {H : Type} : Left H := { results := [], args := [] }

/-- 'skylightlaw05.LevelTells': WHATEVER THE INPUT: true; the input reads as it did. -/
def levelTellsSpec : ChangeSpec := { name := "levelTells", fn := fun _ => fun
  | [d1, d2, d3] => { results := [.lit (.bool true)], args := [d1, d2, d3] }
  | _ => none }
def levelTellsRow : OpenClaim := { program := "ytdejljncodpkeaa", sum := "6fd6f97dcdd5c5be0758eae9317834d474846e7252fb9a3baf27f34cda59574e", func := "skylight/skylightlaw05.LevelTells", spec := "levelTells", unfollowed := true, recurses := true, apart := false }
def LevelTellsSaid : Prop := levelTellsRow.holds Try.pinned (OpenSpec.ofChange levelTellsSpec)

/-- ITS FALSE NEIGHBOUR: 'it returns false'. Refute it at one input. -/
def levelTellsWrong : ChangeSpec := { name := "levelTells", fn := fun _ => fun
  | [d1, d2, d3] => { results := [.lit (.bool false)], args := [d1, d2, d3] }
  | _ => none }
def LevelTellsWrongFalsely : Prop := levelTellsRow.holds Try.pinned (OpenSpec.ofChange levelTellsWrong)

/-- 'skylightlaw05.LevelOnes': WHATEVER THE INPUT: true; the input reads as it did. -/
def levelOnesSpec : ChangeSpec := { name := "levelOnes", fn := fun _ => fun
  | [d1, d2, d3] => { results := [.lit (.bool true)], args := [d1, d2, d3] }
  | _ => none }
def levelOnesRow : OpenClaim := { program := "ytdejljncodpkeaa", sum := "6fd6f97dcdd5c5be0758eae9317834d474846e7252fb9a3baf27f34cda59574e", func := "skylight/skylightlaw05.LevelOnes", spec := "levelOnes", unfollowed := true, recurses := true, apart := false }
def LevelOnesSaid : Prop := levelOnesRow.holds Try.pinned (OpenSpec.ofChange levelOnesSpec)

/-- ITS FALSE NEIGHBOUR: 'it returns false'. Refute it at one input. -/
def levelOnesWrong : ChangeSpec := { name := "levelOnes", fn := fun _ => fun
  | [d1, d2, d3] => { results := [.lit (.bool false)], args := [d1, d2, d3] }
  | _ => none }
def LevelOnesWrongFalsely : Prop := levelOnesRow.holds Try.pinned (OpenSpec.ofChange levelOnesWrong)

/-- 'skylightlaw05.LevelSums': WHATEVER THE INPUT: true; the input reads as it did. -/
def levelSumsSpec : ChangeSpec := { name := "levelSums", fn := fun _ => fun
  | [d1, d2, d3] => { results := [.lit (.bool true)], args := [d1, d2, d3] }
  | _ => none }
def levelSumsRow : OpenClaim := { program := "ytdejljncodpkeaa", sum := "6fd6f97dcdd5c5be0758eae9317834d474846e7252fb9a3baf27f34cda59574e", func := "skylight/skylightlaw05.LevelSums", spec := "levelSums", unfollowed := true, recurses := true, apart := false }
def LevelSumsSaid : Prop := levelSumsRow.holds Try.pinned (OpenSpec.ofChange levelSumsSpec)

/-- ITS FALSE NEIGHBOUR: 'it returns false'. Refute it at one input. -/
def levelSumsWrong : ChangeSpec := { name := "levelSums", fn := fun _ => fun
  | [d1, d2, d3] => { results := [.lit (.bool false)], args := [d1, d2, d3] }
  | _ => none }
def LevelSumsWrongFalsely : Prop := levelSumsRow.holds Try.pinned (OpenSpec.ofChange levelSumsWrong)

/-- 'skylightlaw05.LevelTwice': WHATEVER THE INPUT: true; the input reads as it did. -/
def levelTwiceSpec : ChangeSpec := { name := "levelTwice", fn := fun _ => fun
  | [d1, d2, d3] => { results := [.lit (.bool true)], args := [d1, d2, d3] }
  | _ => none }
def levelTwiceRow : OpenClaim := { program := "ytdejljncodpkeaa", sum := "6fd6f97dcdd5c5be0758eae9317834d474846e7252fb9a3baf27f34cda59574e", func := "skylight/skylightlaw05.LevelTwice", spec := "levelTwice", unfollowed := true, recurses := true, apart := false }
def LevelTwiceSaid : Prop := levelTwiceRow.holds Try.pinned (OpenSpec.ofChange levelTwiceSpec)

/-- ITS FALSE NEIGHBOUR: 'it returns false'. Refute it at one input. -/
def levelTwiceWrong : ChangeSpec := { name := "levelTwice", fn := fun _ => fun
  | [d1, d2, d3] => { results := [.lit (.bool false)], args := [d1, d2, d3] }
  | _ => none }
def LevelTwiceWrongFalsely : Prop := levelTwiceRow.holds Try.pinned (OpenSpec.ofChange levelTwiceWrong)

/-- 'skylightlaw05.LevelOrder': WHATEVER THE INPUT: true; the input reads as it did. -/
def levelOrderSpec : ChangeSpec := { name := "levelOrder", fn := fun _ => fun
  | [d1, d2, d3] => { results := [.lit (.bool true)], args := [d1, d2, d3] }
  | _ => none }
def levelOrderRow : OpenClaim := { program := "ytdejljncodpkeaa", sum := "6fd6f97dcdd5c5be0758eae9317834d474846e7252fb9a3baf27f34cda59574e", func := "skylight/skylightlaw05.LevelOrder", spec := "levelOrder", unfollowed := true, recurses := true, apart := false }
def LevelOrderSaid : Prop := levelOrderRow.holds Try.pinned (OpenSpec.ofChange levelOrderSpec)

/-- ITS FALSE NEIGHBOUR: 'it returns false'. Refute it at one input. -/
def levelOrderWrong : ChangeSpec := { name := "levelOrder", fn := fun _ => fun
  | [d1, d2, d3] => { results := [.lit (.bool false)], args := [d1, d2, d3] }
  | _ => none }
def LevelOrderWrongFalsely : Prop := levelOrderRow.holds Try.pinned (OpenSpec.ofChange levelOrderWrong)

/- THE SECOND FORM. 'bulk': how many values and letters a reading holds, each counted each time it is reached (what is shared counts as often as it is met; a slice's spare places count too). A statement '..UptoSaid' is the law's where the arguments, and the package variables that the reading takes, are together of bulk at most 1048576: NARROWER than '..Said'. Prove '..Said' where nothing that the law and all that it calls make is longer than what came in: it says more and counts as full. Else prove '..UptoSaid'. A law counts once. -/
mutual
def uptoBulk {H : Type} : DataW H → Nat
  | .lit (.string bytes) => bytes.length + 1
  | .lit _ => 1
  | .nil => 1
  | .ptr d => uptoBulk d + 1
  | .slice elems spare => uptoBulkAll elems + uptoBulkAll spare + 1
  | .agg parts => uptoBulkAll parts + 1
  | .iface _ d => uptoBulk d + 1
  | .map entries => uptoBulkEntries entries + 1
  | .held _ => 1
def uptoBulkAll {H : Type} : List (DataW H) → Nat
  | [] => 0
  | d :: r => uptoBulk d + uptoBulkAll r
def uptoBulkEntries {H : Type} : List (Lit × DataW H) → Nat
  | [] => 0
  | x :: r => uptoBulkEntry x + uptoBulkEntries r
def uptoBulkEntry {H : Type} : Lit × DataW H → Nat
  | (.string bytes, d) => bytes.length + uptoBulk d + 1
  | (_, d) => uptoBulk d + 1
 end
def uptoSmall : (H : Type) → List (DataW H) → Bool := fun _ ds => decide (uptoBulkAll ds ≤ 1048576)
def OpenSpec.upto (s : _root_.Go.ChangeSpec) : _root_.Go.OpenSpec := { _root_.Go.OpenSpec.ofChange s with cond := some uptoSmall }

/-- 'skylightlaw05.LevelTells', WHERE WHAT IT READS IS OF BULK AT MOST 1048576: true; the input reads as it did. -/
def levelTellsUptoRow : OpenClaim := { program := "ytdejljncodpkeaa", sum := "6fd6f97dcdd5c5be0758eae9317834d474846e7252fb9a3baf27f34cda59574e", func := "skylight/skylightlaw05.LevelTells", spec := "levelTells", unfollowed := true, recurses := true, apart := false, narrowed := true }
def LevelTellsUptoSaid : Prop := levelTellsUptoRow.holds Try.pinned (OpenSpec.upto levelTellsSpec)

/-- 'skylightlaw05.LevelOnes', WHERE WHAT IT READS IS OF BULK AT MOST 1048576: true; the input reads as it did. -/
def levelOnesUptoRow : OpenClaim := { program := "ytdejljncodpkeaa", sum := "6fd6f97dcdd5c5be0758eae9317834d474846e7252fb9a3baf27f34cda59574e", func := "skylight/skylightlaw05.LevelOnes", spec := "levelOnes", unfollowed := true, recurses := true, apart := false, narrowed := true }
def LevelOnesUptoSaid : Prop := levelOnesUptoRow.holds Try.pinned (OpenSpec.upto levelOnesSpec)

/-- 'skylightlaw05.LevelSums', WHERE WHAT IT READS IS OF BULK AT MOST 1048576: true; the input reads as it did. -/
def levelSumsUptoRow : OpenClaim := { program := "ytdejljncodpkeaa", sum := "6fd6f97dcdd5c5be0758eae9317834d474846e7252fb9a3baf27f34cda59574e", func := "skylight/skylightlaw05.LevelSums", spec := "levelSums", unfollowed := true, recurses := true, apart := false, narrowed := true }
def LevelSumsUptoSaid : Prop := levelSumsUptoRow.holds Try.pinned (OpenSpec.upto levelSumsSpec)

/-- 'skylightlaw05.LevelTwice', WHERE WHAT IT READS IS OF BULK AT MOST 1048576: true; the input reads as it did. -/
def levelTwiceUptoRow : OpenClaim := { program := "ytdejljncodpkeaa", sum := "6fd6f97dcdd5c5be0758eae9317834d474846e7252fb9a3baf27f34cda59574e", func := "skylight/skylightlaw05.LevelTwice", spec := "levelTwice", unfollowed := true, recurses := true, apart := false, narrowed := true }
def LevelTwiceUptoSaid : Prop := levelTwiceUptoRow.holds Try.pinned (OpenSpec.upto levelTwiceSpec)

/-- 'skylightlaw05.LevelOrder', WHERE WHAT IT READS IS OF BULK AT MOST 1048576: true; the input reads as it did. -/
def levelOrderUptoRow : OpenClaim := { program := "ytdejljncodpkeaa", sum := "6fd6f97dcdd5c5be0758eae9317834d474846e7252fb9a3baf27f34cda59574e", func := "skylight/skylightlaw05.LevelOrder", spec := "levelOrder", unfollowed := true, recurses := true, apart := false, narrowed := true }
def LevelOrderUptoSaid : Prop := levelOrderUptoRow.holds Try.pinned (OpenSpec.upto levelOrderSpec)

end Rows
end Go.Proofs.Ytdejljncodpkeaa
