/- PlanePoints holds for every three blocks, every number and every list of numbers: At, Step, Turn, Square, Rotate and Mirror return what the reference returns. -/
import Derived.Test.YtifnmfljlgaeoaaPlPoints
import Derived.Test.YtifnmfljlgaeoaaPlOpen
import Derived.Test.YtifnmfljlgaeoaaPdArea
import Derived.Test.YtifnmfljlgaeoaaPdMove
import Derived.Test.YtifnmfljlgaeoaaPdTurn
import Derived.Test.YtifnmfljlgaeoaaPdStep
import Derived.Test.YtifnmfljlgaeoaaPdAt
import Derived.Test.YtifnmfljlgaeoaaRhOpen
namespace Go.Proofs.Ytifnmfljlgaeoaa.planePoints
open Go.ChangeShapes Go.WideShapes Go.ChangeAt Go.RowKit

theorem reads (os : Os) {H : Type} (enc : TypeId × Value → H) : ∃ places, DataW.whole enc Try.prog ((laidWorld os).forCall (fun _ _ => 0) ⟨#[], #[.agg #[.string ⟨#[]⟩, .int .i64 0, .int .i64 0], .agg #[.string ⟨#[]⟩, .int .i64 0, .int .i64 0], .agg #[.string ⟨#[]⟩, .int .i64 0, .int .i64 0], .int .i64 0, .slice none 0 0], []⟩).memory Try.f3.params.toList Rows.planePointsSpec.vars false (#[.agg #[.string ⟨#[]⟩, .int .i64 0, .int .i64 0], .agg #[.string ⟨#[]⟩, .int .i64 0, .int .i64 0], .agg #[.string ⟨#[]⟩, .int .i64 0, .int .i64 0], .int .i64 0, .slice none 0 0] : Array Value).toList 8 = some ([.agg [.lit (.string []), .lit (.int .i64 0), .lit (.int .i64 0)], .agg [.lit (.string []), .lit (.int .i64 0), .lit (.int .i64 0)], .agg [.lit (.string []), .lit (.int .i64 0), .lit (.int .i64 0)], .lit (.int .i64 0), .nil], [], places) :=
  ⟨[], by kernel_rfl⟩

end Go.Proofs.Ytifnmfljlgaeoaa.planePoints
