/- Contracts of frame's isFrom, check and Valid. -/
import Derived.Test.YtpiofjhcagdklaaFrSpec
import Derived.Test.YtpiofjhcagdklaaGrApp
import Derived.Test.YtpiofjhcagdklaaTape
import Derived.Laws.StructEq
namespace Go.Proofs.Ytpiofjhcagdklaa
open Go Go.RowKit Fl

/-- A frame as a value, and its cells. -/
abbrev FV (f : FrD) : Value := .agg #[.int .i64 f.kind, .int .i64 f.robot, .int .u64 f.seq, .int .i64 f.cell, .int .i64 f.flag]
abbrev FC (f : FrD) : Array Value := #[.int .i64 f.kind, .int .i64 f.robot, .int .u64 f.seq, .int .i64 f.cell, .int .i64 f.flag]
abbrev Bv8 (z : Int) : Value := .int .u8 z
theorem below_newF (w : World) (o : Obj) : Below w.heap.size w (w.alloc o) := (Below.refl _ _).alloc (Nat.le_refl _) _
end Go.Proofs.Ytpiofjhcagdklaa
