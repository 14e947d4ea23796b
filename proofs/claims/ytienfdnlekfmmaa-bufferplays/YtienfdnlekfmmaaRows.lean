/-
  No cell of these rows narrows 'for every input' (looked for: loops, veiled, ifaces, maps, wideKeys, modest, calm, conditions, laid).
  DERIVED. THE GIVEN ROWS OF THIS SEAT. 6 by the template 'for every input the law returns true; each argument reads behind the call as it read before'; 0 by the template 'total and deterministic' (their statements: YtienfdnlekfmmaaTotals.lean).
  GIVEN WITH THE SEED: the statements are not yours to turn. If you find one false, say at which input.
  Laid BY PROGRAM, IN A SANDBOX (cutbox-rows.mjs): the forced cells as the released guide's own fill.sh prints them over the translation b4da8c2f88f6e480… (all of the seat's roots in one cut). By AI agents, Wed Nov 11 2026. No macro, syntax, notation, axiom, sorry.
-/
import Derived.Test.YtienfdnlekfmmaaChecked
import GoSem.Claim
import GoSem.ClaimJoined
import GoSem.ClaimMapViews
import Derived.JoinedTies
import Derived.KernelRfl
namespace Go.Proofs.Ytienfdnlekfmmaa
/- THE CELL 'sum', in the pinned program and in every row, IS THE sha256 OF THE DUMP (.gsa) THAT YtienfdnlekfmmaaProg.lean LOADS. Nothing in Lean hashes anything: it is a label: what it is worth is what the hold of that sum in a sandbox is worth. -/
noncomputable def Try.pinned : Pinned := { name := "ytienfdnlekfmmaa", sum := "b4da8c2f88f6e4806c79af771e4da1f4a8064dd09f3908a84357178c4ec0729d", checked := Try.checked }
namespace Rows
def none {H : Type} : Left H := { results := [], args := [] }

/-- 'skylightlaw12.BufferPlays': WHATEVER THE INPUT: true; the input reads as it did. -/
def bufferPlaysSpec : ChangeSpec := { name := "bufferPlays", fn := fun _ => fun
  | [d1, d2, d3] => { results := [.lit (.bool true)], args := [d1, d2, d3] }
  | _ => none }
def bufferPlaysRow : OpenClaim := { program := "ytienfdnlekfmmaa", sum := "b4da8c2f88f6e4806c79af771e4da1f4a8064dd09f3908a84357178c4ec0729d", func := "skylight/skylightlaw12.BufferPlays", spec := "bufferPlays", unfollowed := true, recurses := true, apart := false }
def BufferPlaysSaid : Prop := bufferPlaysRow.holds Try.pinned (OpenSpec.ofChange bufferPlaysSpec)

/-- ITS FALSE NEIGHBOUR: 'it returns false'. Refute it at one input. -/
def bufferPlaysWrong : ChangeSpec := { name := "bufferPlays", fn := fun _ => fun
  | [d1, d2, d3] => { results := [.lit (.bool false)], args := [d1, d2, d3] }
  | _ => none }
def BufferPlaysWrongFalsely : Prop := bufferPlaysRow.holds Try.pinned (OpenSpec.ofChange bufferPlaysWrong)

/-- 'skylightlaw12.BufferMay': WHATEVER THE INPUT: true; the input reads as it did. -/
def bufferMaySpec : ChangeSpec := { name := "bufferMay", fn := fun _ => fun
  | [d1, d2] => { results := [.lit (.bool true)], args := [d1, d2] }
  | _ => none }
def bufferMayRow : OpenClaim := { program := "ytienfdnlekfmmaa", sum := "b4da8c2f88f6e4806c79af771e4da1f4a8064dd09f3908a84357178c4ec0729d", func := "skylight/skylightlaw12.BufferMay", spec := "bufferMay", unfollowed := true, recurses := true, apart := false }
def BufferMaySaid : Prop := bufferMayRow.holds Try.pinned (OpenSpec.ofChange bufferMaySpec)

/-- ITS FALSE NEIGHBOUR: 'it returns false'. Refute it at one input. -/
def bufferMayWrong : ChangeSpec := { name := "bufferMay", fn := fun _ => fun
  | [d1, d2] => { results := [.lit (.bool false)], args := [d1, d2] }
  | _ => none }
def BufferMayWrongFalsely : Prop := bufferMayRow.holds Try.pinned (OpenSpec.ofChange bufferMayWrong)

/-- 'skylightlaw12.BufferTurn': WHATEVER THE INPUT: true; the input reads as it did. -/
def bufferTurnSpec : ChangeSpec := { name := "bufferTurn", fn := fun _ => fun
  | [d1, d2, d3] => { results := [.lit (.bool true)], args := [d1, d2, d3] }
  | _ => none }
def bufferTurnRow : OpenClaim := { program := "ytienfdnlekfmmaa", sum := "b4da8c2f88f6e4806c79af771e4da1f4a8064dd09f3908a84357178c4ec0729d", func := "skylight/skylightlaw12.BufferTurn", spec := "bufferTurn", unfollowed := true, recurses := true, apart := false }
def BufferTurnSaid : Prop := bufferTurnRow.holds Try.pinned (OpenSpec.ofChange bufferTurnSpec)

/-- ITS FALSE NEIGHBOUR: 'it returns false'. Refute it at one input. -/
def bufferTurnWrong : ChangeSpec := { name := "bufferTurn", fn := fun _ => fun
  | [d1, d2, d3] => { results := [.lit (.bool false)], args := [d1, d2, d3] }
  | _ => none }
def BufferTurnWrongFalsely : Prop := bufferTurnRow.holds Try.pinned (OpenSpec.ofChange bufferTurnWrong)

/-- 'skylightlaw12.BufferLate': WHATEVER THE INPUT: true; the input reads as it did. -/
def bufferLateSpec : ChangeSpec := { name := "bufferLate", fn := fun _ => fun
  | [d1, d2, d3] => { results := [.lit (.bool true)], args := [d1, d2, d3] }
  | _ => none }
def bufferLateRow : OpenClaim := { program := "ytienfdnlekfmmaa", sum := "b4da8c2f88f6e4806c79af771e4da1f4a8064dd09f3908a84357178c4ec0729d", func := "skylight/skylightlaw12.BufferLate", spec := "bufferLate", unfollowed := true, recurses := true, apart := false }
def BufferLateSaid : Prop := bufferLateRow.holds Try.pinned (OpenSpec.ofChange bufferLateSpec)

/-- ITS FALSE NEIGHBOUR: 'it returns false'. Refute it at one input. -/
def bufferLateWrong : ChangeSpec := { name := "bufferLate", fn := fun _ => fun
  | [d1, d2, d3] => { results := [.lit (.bool false)], args := [d1, d2, d3] }
  | _ => none }
def BufferLateWrongFalsely : Prop := bufferLateRow.holds Try.pinned (OpenSpec.ofChange bufferLateWrong)

/-- 'skylightlaw12.BufferMoves': WHATEVER THE INPUT: true; the input reads as it did. -/
def bufferMovesSpec : ChangeSpec := { name := "bufferMoves", fn := fun _ => fun
  | [d1, d2, d3] => { results := [.lit (.bool true)], args := [d1, d2, d3] }
  | _ => none }
def bufferMovesRow : OpenClaim := { program := "ytienfdnlekfmmaa", sum := "b4da8c2f88f6e4806c79af771e4da1f4a8064dd09f3908a84357178c4ec0729d", func := "skylight/skylightlaw12.BufferMoves", spec := "bufferMoves", unfollowed := true, recurses := true, apart := false }
def BufferMovesSaid : Prop := bufferMovesRow.holds Try.pinned (OpenSpec.ofChange bufferMovesSpec)

/-- ITS FALSE NEIGHBOUR: 'it returns false'. Refute it at one input. -/
def bufferMovesWrong : ChangeSpec := { name := "bufferMoves", fn := fun _ => fun
  | [d1, d2, d3] => { results := [.lit (.bool false)], args := [d1, d2, d3] }
  | _ => none }
def BufferMovesWrongFalsely : Prop := bufferMovesRow.holds Try.pinned (OpenSpec.ofChange bufferMovesWrong)

/-- 'skylightlaw12.BufferJoins': WHATEVER THE INPUT: true; the input reads as it did. -/
def bufferJoinsSpec : ChangeSpec := { name := "bufferJoins", fn := fun _ => fun
  | [d1, d2] => { results := [.lit (.bool true)], args := [d1, d2] }
  | _ => none }
def bufferJoinsRow : OpenClaim := { program := "ytienfdnlekfmmaa", sum := "b4da8c2f88f6e4806c79af771e4da1f4a8064dd09f3908a84357178c4ec0729d", func := "skylight/skylightlaw12.BufferJoins", spec := "bufferJoins", unfollowed := true, recurses := true, apart := false }
def BufferJoinsSaid : Prop := bufferJoinsRow.holds Try.pinned (OpenSpec.ofChange bufferJoinsSpec)

/-- ITS FALSE NEIGHBOUR: 'it returns false'. Refute it at one input. -/
def bufferJoinsWrong : ChangeSpec := { name := "bufferJoins", fn := fun _ => fun
  | [d1, d2] => { results := [.lit (.bool false)], args := [d1, d2] }
  | _ => none }
def BufferJoinsWrongFalsely : Prop := bufferJoinsRow.holds Try.pinned (OpenSpec.ofChange bufferJoinsWrong)

/- THE SECOND FORM. 'bulk': how many values and letters a reading holds, each counted each time it is reached (what is shared counts as often as it is met; a slice's spare places count too). A statement '..UptoSaid' is the law's where the arguments, and the package variables that the reading takes, are together of bulk at most 1048576: NARROWER than '..Said'. Prove '..Said' where nothing that the law and all that it calls make is longer than what came in: it says more and counts as full. Else prove '..UptoSaid'. A law counts once. -/
mutual
def uptoBulk {H : Type} : DataW H → Nat
  | .lit (.string bytes) => bytes.length + 1
  | .lit _ => 1
  | .nil => 1
  | .ptr d => uptoBulk d + 1
  | .slice elems spare => uptoBulkAll elems + uptoBulkAll spare + 1
  | .agg parts => uptoBulkAll parts + 1
  | .iface _ d => uptoBulk d + 1
  | .map entries => uptoBulkEntries entries + 1
  | .held _ => 1
def uptoBulkAll {H : Type} : List (DataW H) → Nat
  | [] => 0
  | d :: r => uptoBulk d + uptoBulkAll r
def uptoBulkEntries {H : Type} : List (Lit × DataW H) → Nat
  | [] => 0
  | x :: r => uptoBulkEntry x + uptoBulkEntries r
def uptoBulkEntry {H : Type} : Lit × DataW H → Nat
  | (.string bytes, d) => bytes.length + uptoBulk d + 1
  | (_, d) => uptoBulk d + 1
 end
def uptoSmall : (H : Type) → List (DataW H) → Bool := fun _ ds => decide (uptoBulkAll ds ≤ 1048576)
def OpenSpec.upto (s : _root_.Go.ChangeSpec) : _root_.Go.OpenSpec := { _root_.Go.OpenSpec.ofChange s with cond := some uptoSmall }

/-- 'skylightlaw12.BufferPlays', WHERE WHAT IT READS IS OF BULK AT MOST 1048576: true; the input reads as it did. -/
def bufferPlaysUptoRow : OpenClaim := { program := "ytienfdnlekfmmaa", sum := "b4da8c2f88f6e4806c79af771e4da1f4a8064dd09f3908a84357178c4ec0729d", func := "skylight/skylightlaw12.BufferPlays", spec := "bufferPlays", unfollowed := true, recurses := true, apart := false, narrowed := true }
def BufferPlaysUptoSaid : Prop := bufferPlaysUptoRow.holds Try.pinned (OpenSpec.upto bufferPlaysSpec)

/-- 'skylightlaw12.BufferMay', WHERE WHAT IT READS IS OF BULK AT MOST 1048576: true; the input reads as it did. -/
def bufferMayUptoRow : OpenClaim := { program := "ytienfdnlekfmmaa", sum := "b4da8c2f88f6e4806c79af771e4da1f4a8064dd09f3908a84357178c4ec0729d", func := "skylight/skylightlaw12.BufferMay", spec := "bufferMay", unfollowed := true, recurses := true, apart := false, narrowed := true }
def BufferMayUptoSaid : Prop := bufferMayUptoRow.holds Try.pinned (OpenSpec.upto bufferMaySpec)

/-- 'skylightlaw12.BufferTurn', WHERE WHAT IT READS IS OF BULK AT MOST 1048576: true; the input reads as it did. -/
def bufferTurnUptoRow : OpenClaim := { program := "ytienfdnlekfmmaa", sum := "b4da8c2f88f6e4806c79af771e4da1f4a8064dd09f3908a84357178c4ec0729d", func := "skylight/skylightlaw12.BufferTurn", spec := "bufferTurn", unfollowed := true, recurses := true, apart := false, narrowed := true }
def BufferTurnUptoSaid : Prop := bufferTurnUptoRow.holds Try.pinned (OpenSpec.upto bufferTurnSpec)

/-- 'skylightlaw12.BufferLate', WHERE WHAT IT READS IS OF BULK AT MOST 1048576: true; the input reads as it did. -/
def bufferLateUptoRow : OpenClaim := { program := "ytienfdnlekfmmaa", sum := "b4da8c2f88f6e4806c79af771e4da1f4a8064dd09f3908a84357178c4ec0729d", func := "skylight/skylightlaw12.BufferLate", spec := "bufferLate", unfollowed := true, recurses := true, apart := false, narrowed := true }
def BufferLateUptoSaid : Prop := bufferLateUptoRow.holds Try.pinned (OpenSpec.upto bufferLateSpec)

/-- 'skylightlaw12.BufferMoves', WHERE WHAT IT READS IS OF BULK AT MOST 1048576: true; the input reads as it did. -/
def bufferMovesUptoRow : OpenClaim := { program := "ytienfdnlekfmmaa", sum := "b4da8c2f88f6e4806c79af771e4da1f4a8064dd09f3908a84357178c4ec0729d", func := "skylight/skylightlaw12.BufferMoves", spec := "bufferMoves", unfollowed := true, recurses := true, apart := false, narrowed := true }
def BufferMovesUptoSaid : Prop := bufferMovesUptoRow.holds Try.pinned (OpenSpec.upto bufferMovesSpec)

/-- 'skylightlaw12.BufferJoins', WHERE WHAT IT READS IS OF BULK AT MOST 1048576: true; the input reads as it did. -/
def bufferJoinsUptoRow : OpenClaim := { program := "ytienfdnlekfmmaa", sum := "b4da8c2f88f6e4806c79af771e4da1f4a8064dd09f3908a84357178c4ec0729d", func := "skylight/skylightlaw12.BufferJoins", spec := "bufferJoins", unfollowed := true, recurses := true, apart := false, narrowed := true }
def BufferJoinsUptoSaid : Prop := bufferJoinsUptoRow.holds Try.pinned (OpenSpec.upto bufferJoinsSpec)

end Rows
end Go.Proofs.Ytienfdnlekfmmaa
