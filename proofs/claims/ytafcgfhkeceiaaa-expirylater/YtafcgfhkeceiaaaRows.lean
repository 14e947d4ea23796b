/-
  No cell of these rows narrows 'for every input' (looked for: loops, veiled, ifaces, maps, wideKeys, modest, calm, conditions, laid).
  DERIVED. THE GIVEN ROWS OF THIS SEAT. 5 by the template 'for every input the law returns true; each argument reads behind the call as it read before'; 0 by the template 'total and deterministic' (their statements: YtafcgfhkeceiaaaTotals.lean).
  GIVEN WITH THE SEED: the statements are not yours to turn. If you find one false, say at which input.
  Laid BY PROGRAM, IN A SANDBOX (cutbox-rows.mjs): the forced cells as the released guide's own fill.sh prints them over the translation 527f54c009329415… (all of the seat's roots in one cut). By AI agents, Wed Nov 11 2026. No macro, syntax, notation, axiom, sorry.
-/
import Derived.Test.YtafcgfhkeceiaaaChecked
import GoSem.Claim
import GoSem.ClaimJoined
import GoSem.ClaimMapViews
import Derived.JoinedTies
import Derived.KernelRfl
namespace Go.Proofs.Ytafcgfhkeceiaaa
/- THE CELL 'sum', in the pinned program and in every row, IS THE sha256 OF THE DUMP (.gsa) THAT YtafcgfhkeceiaaaProg.lean LOADS. Nothing in Lean hashes anything: it is a label: what it is worth is what the hold of that sum in a sandbox is worth. -/
noncomputable def Try.pinned : Pinned := { name := "ytafcgfhkeceiaaa", sum := "527f54c0093294153cfd0587a6e827d1af70b497c1a8c1e9fe79699e0ceb0f44", checked := Try.checked }
namespace Rows
def none {H : Type} : Left H := { results := [], args := [] }

/-- 'skylightlaw07.ExpiryTells': WHATEVER THE INPUT: true; the input reads as it did. -/
def expiryTellsSpec : ChangeSpec := { name := "expiryTells", fn := fun _ => fun
  | [d1, d2, d3] => { results := [.lit (.bool true)], args := [d1, d2, d3] }
  | _ => none }
def expiryTellsRow : OpenClaim := { program := "ytafcgfhkeceiaaa", sum := "527f54c0093294153cfd0587a6e827d1af70b497c1a8c1e9fe79699e0ceb0f44", func := "skylight/skylightlaw07.ExpiryTells", spec := "expiryTells", unfollowed := true, recurses := true, apart := false }
def ExpiryTellsSaid : Prop := expiryTellsRow.holds Try.pinned (OpenSpec.ofChange expiryTellsSpec)

/-- ITS FALSE NEIGHBOUR: 'it returns false'. Refute it at one input. -/
def expiryTellsWrong : ChangeSpec := { name := "expiryTells", fn := fun _ => fun
  | [d1, d2, d3] => { results := [.lit (.bool false)], args := [d1, d2, d3] }
  | _ => none }
def ExpiryTellsWrongFalsely : Prop := expiryTellsRow.holds Try.pinned (OpenSpec.ofChange expiryTellsWrong)

/-- 'skylightlaw07.ExpiryStays': WHATEVER THE INPUT: true; the input reads as it did. -/
def expiryStaysSpec : ChangeSpec := { name := "expiryStays", fn := fun _ => fun
  | [d1, d2, d3] => { results := [.lit (.bool true)], args := [d1, d2, d3] }
  | _ => none }
def expiryStaysRow : OpenClaim := { program := "ytafcgfhkeceiaaa", sum := "527f54c0093294153cfd0587a6e827d1af70b497c1a8c1e9fe79699e0ceb0f44", func := "skylight/skylightlaw07.ExpiryStays", spec := "expiryStays", unfollowed := true, recurses := true, apart := false }
def ExpiryStaysSaid : Prop := expiryStaysRow.holds Try.pinned (OpenSpec.ofChange expiryStaysSpec)

/-- ITS FALSE NEIGHBOUR: 'it returns false'. Refute it at one input. -/
def expiryStaysWrong : ChangeSpec := { name := "expiryStays", fn := fun _ => fun
  | [d1, d2, d3] => { results := [.lit (.bool false)], args := [d1, d2, d3] }
  | _ => none }
def ExpiryStaysWrongFalsely : Prop := expiryStaysRow.holds Try.pinned (OpenSpec.ofChange expiryStaysWrong)

/-- 'skylightlaw07.ExpiryTwice': WHATEVER THE INPUT: true; the input reads as it did. -/
def expiryTwiceSpec : ChangeSpec := { name := "expiryTwice", fn := fun _ => fun
  | [d1, d2, d3] => { results := [.lit (.bool true)], args := [d1, d2, d3] }
  | _ => none }
def expiryTwiceRow : OpenClaim := { program := "ytafcgfhkeceiaaa", sum := "527f54c0093294153cfd0587a6e827d1af70b497c1a8c1e9fe79699e0ceb0f44", func := "skylight/skylightlaw07.ExpiryTwice", spec := "expiryTwice", unfollowed := true, recurses := true, apart := false }
def ExpiryTwiceSaid : Prop := expiryTwiceRow.holds Try.pinned (OpenSpec.ofChange expiryTwiceSpec)

/-- ITS FALSE NEIGHBOUR: 'it returns false'. Refute it at one input. -/
def expiryTwiceWrong : ChangeSpec := { name := "expiryTwice", fn := fun _ => fun
  | [d1, d2, d3] => { results := [.lit (.bool false)], args := [d1, d2, d3] }
  | _ => none }
def ExpiryTwiceWrongFalsely : Prop := expiryTwiceRow.holds Try.pinned (OpenSpec.ofChange expiryTwiceWrong)

/-- 'skylightlaw07.ExpiryShape': WHATEVER THE INPUT: true; the input reads as it did. -/
def expiryShapeSpec : ChangeSpec := { name := "expiryShape", fn := fun _ => fun
  | [d1, d2, d3] => { results := [.lit (.bool true)], args := [d1, d2, d3] }
  | _ => none }
def expiryShapeRow : OpenClaim := { program := "ytafcgfhkeceiaaa", sum := "527f54c0093294153cfd0587a6e827d1af70b497c1a8c1e9fe79699e0ceb0f44", func := "skylight/skylightlaw07.ExpiryShape", spec := "expiryShape", unfollowed := true, recurses := true, apart := false }
def ExpiryShapeSaid : Prop := expiryShapeRow.holds Try.pinned (OpenSpec.ofChange expiryShapeSpec)

/-- ITS FALSE NEIGHBOUR: 'it returns false'. Refute it at one input. -/
def expiryShapeWrong : ChangeSpec := { name := "expiryShape", fn := fun _ => fun
  | [d1, d2, d3] => { results := [.lit (.bool false)], args := [d1, d2, d3] }
  | _ => none }
def ExpiryShapeWrongFalsely : Prop := expiryShapeRow.holds Try.pinned (OpenSpec.ofChange expiryShapeWrong)

/-- 'skylightlaw07.ExpiryLater': WHATEVER THE INPUT: true; the input reads as it did. -/
def expiryLaterSpec : ChangeSpec := { name := "expiryLater", fn := fun _ => fun
  | [d1, d2, d3] => { results := [.lit (.bool true)], args := [d1, d2, d3] }
  | _ => none }
def expiryLaterRow : OpenClaim := { program := "ytafcgfhkeceiaaa", sum := "527f54c0093294153cfd0587a6e827d1af70b497c1a8c1e9fe79699e0ceb0f44", func := "skylight/skylightlaw07.ExpiryLater", spec := "expiryLater", unfollowed := true, recurses := true, apart := false }
def ExpiryLaterSaid : Prop := expiryLaterRow.holds Try.pinned (OpenSpec.ofChange expiryLaterSpec)

/-- ITS FALSE NEIGHBOUR: 'it returns false'. Refute it at one input. -/
def expiryLaterWrong : ChangeSpec := { name := "expiryLater", fn := fun _ => fun
  | [d1, d2, d3] => { results := [.lit (.bool false)], args := [d1, d2, d3] }
  | _ => none }
def ExpiryLaterWrongFalsely : Prop := expiryLaterRow.holds Try.pinned (OpenSpec.ofChange expiryLaterWrong)

/- THE SECOND FORM. 'bulk': how many values and letters a reading holds, each counted each time it is reached (what is shared counts as often as it is met; a slice's spare places count too). A statement '..UptoSaid' is the law's where the arguments, and the package variables that the reading takes, are together of bulk at most 1048576: NARROWER than '..Said'. Prove '..Said' where nothing that the law and all that it calls make is longer than what came in: it says more and counts as full. Else prove '..UptoSaid'. A law counts once. -/
mutual
def uptoBulk {H : Type} : DataW H → Nat
  | .lit (.string bytes) => bytes.length + 1
  | .lit _ => 1
  | .nil => 1
  | .ptr d => uptoBulk d + 1
  | .slice elems spare => uptoBulkAll elems + uptoBulkAll spare + 1
  | .agg parts => uptoBulkAll parts + 1
  | .iface _ d => uptoBulk d + 1
  | .map entries => uptoBulkEntries entries + 1
  | .held _ => 1
def uptoBulkAll {H : Type} : List (DataW H) → Nat
  | [] => 0
  | d :: r => uptoBulk d + uptoBulkAll r
def uptoBulkEntries {H : Type} : List (Lit × DataW H) → Nat
  | [] => 0
  | x :: r => uptoBulkEntry x + uptoBulkEntries r
def uptoBulkEntry {H : Type} : Lit × DataW H → Nat
  | (.string bytes, d) => bytes.length + uptoBulk d + 1
  | (_, d) => uptoBulk d + 1
 end
def uptoSmall : (H : Type) → List (DataW H) → Bool := fun _ ds => decide (uptoBulkAll ds ≤ 1048576)
def OpenSpec.upto (s : _root_.Go.ChangeSpec) : _root_.Go.OpenSpec := { _root_.Go.OpenSpec.ofChange s with cond := some uptoSmall }

/-- 'skylightlaw07.ExpiryTells', WHERE WHAT IT READS IS OF BULK AT MOST 1048576: true; the input reads as it did. -/
def expiryTellsUptoRow : OpenClaim := { program := "ytafcgfhkeceiaaa", sum := "527f54c0093294153cfd0587a6e827d1af70b497c1a8c1e9fe79699e0ceb0f44", func := "skylight/skylightlaw07.ExpiryTells", spec := "expiryTells", unfollowed := true, recurses := true, apart := false, narrowed := true }
def ExpiryTellsUptoSaid : Prop := expiryTellsUptoRow.holds Try.pinned (OpenSpec.upto expiryTellsSpec)

/-- 'skylightlaw07.ExpiryStays', WHERE WHAT IT READS IS OF BULK AT MOST 1048576: true; the input reads as it did. -/
def expiryStaysUptoRow : OpenClaim := { program := "ytafcgfhkeceiaaa", sum := "527f54c0093294153cfd0587a6e827d1af70b497c1a8c1e9fe79699e0ceb0f44", func := "skylight/skylightlaw07.ExpiryStays", spec := "expiryStays", unfollowed := true, recurses := true, apart := false, narrowed := true }
def ExpiryStaysUptoSaid : Prop := expiryStaysUptoRow.holds Try.pinned (OpenSpec.upto expiryStaysSpec)

/-- 'skylightlaw07.ExpiryTwice', WHERE WHAT IT READS IS OF BULK AT MOST 1048576: true; the input reads as it did. -/
def expiryTwiceUptoRow : OpenClaim := { program := "ytafcgfhkeceiaaa", sum := "527f54c0093294153cfd0587a6e827d1af70b497c1a8c1e9fe79699e0ceb0f44", func := "skylight/skylightlaw07.ExpiryTwice", spec := "expiryTwice", unfollowed := true, recurses := true, apart := false, narrowed := true }
def ExpiryTwiceUptoSaid : Prop := expiryTwiceUptoRow.holds Try.pinned (OpenSpec.upto expiryTwiceSpec)

/-- 'skylightlaw07.ExpiryShape', WHERE WHAT IT READS IS OF BULK AT MOST 1048576: true; the input reads as it did. -/
def expiryShapeUptoRow : OpenClaim := { program := "ytafcgfhkeceiaaa", sum := "527f54c0093294153cfd0587a6e827d1af70b497c1a8c1e9fe79699e0ceb0f44", func := "skylight/skylightlaw07.ExpiryShape", spec := "expiryShape", unfollowed := true, recurses := true, apart := false, narrowed := true }
def ExpiryShapeUptoSaid : Prop := expiryShapeUptoRow.holds Try.pinned (OpenSpec.upto expiryShapeSpec)

/-- 'skylightlaw07.ExpiryLater', WHERE WHAT IT READS IS OF BULK AT MOST 1048576: true; the input reads as it did. -/
def expiryLaterUptoRow : OpenClaim := { program := "ytafcgfhkeceiaaa", sum := "527f54c0093294153cfd0587a6e827d1af70b497c1a8c1e9fe79699e0ceb0f44", func := "skylight/skylightlaw07.ExpiryLater", spec := "expiryLater", unfollowed := true, recurses := true, apart := false, narrowed := true }
def ExpiryLaterUptoSaid : Prop := expiryLaterUptoRow.holds Try.pinned (OpenSpec.upto expiryLaterSpec)

end Rows
end Go.Proofs.Ytafcgfhkeceiaaa
