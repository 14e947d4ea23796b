/- The contracts of slices.Grow and slices.Concat, as level calls them. -/
import Derived.Lib.AppendZeros
import Derived.Test.YtoplbjanemjebaaTeller
namespace Go.Proofs.Ytoplbjanemjebaa
open Go.RowKit Go.Proofs.Rw

theorem info_sp : (Try.prog.info? 44).map (fun i => (i.zero, i.size, i.bytes)) = some (some (.agg #[.int .u64 0, .int .u64 0]), 2, 16) := by kernel_rfl

/-- A row of buckets of the call's own. -/
abbrev Own (w : World) (base : Nat) (v : Value) (xs : List Sp) : Prop := w.ownsRow base 44 2 v xs.length (spL.cells xs)

def CatAt (xs ys : List Sp) (base : Nat) (w0 wr : World) (v : Value) (j : Value) : Prop :=
  ((j = .int .i64 0 ∧ Own wr base v []) ∨ (j = .int .i64 1 ∧ Own wr base v xs) ∨ (j = .int .i64 2 ∧ Own wr base v (xs ++ ys))) ∧ Below w0.heap.size w0 wr

end Go.Proofs.Ytoplbjanemjebaa
