/- PlaneRotates holds for every list of numbers and every two numbers: rotations change no turns, areas and lengths, and mirroring exchanges left and right and changes the sign of areas. -/
import Derived.Test.YtifnmfljlgaeoaaPlRotates
import Derived.Test.YtifnmfljlgaeoaaPdArea
import Derived.Test.YtifnmfljlgaeoaaPdMove
import Derived.Test.YtifnmfljlgaeoaaPdTurn
import Derived.Test.YtifnmfljlgaeoaaPdStep
import Derived.Test.YtifnmfljlgaeoaaPdAt
import Derived.Test.YtifnmfljlgaeoaaRhOpen
namespace Go.Proofs.Ytifnmfljlgaeoaa.planeRotates
open Go.ChangeShapes Go.WideShapes Go.ChangeAt Go.RowKit

theorem reads (os : Os) {H : Type} (enc : TypeId × Value → H) : ∃ places, DataW.whole enc Try.prog ((laidWorld os).forCall (fun _ _ => 0) ⟨#[], #[.slice none 0 0, .int .i64 0, .int .i64 0], []⟩).memory Try.f5.params.toList Rows.planeRotatesSpec.vars false (#[.slice none 0 0, .int .i64 0, .int .i64 0] : Array Value).toList 8 = some ([.nil, .lit (.int .i64 0), .lit (.int .i64 0)], [], places) :=
  ⟨[], by kernel_rfl⟩

end Go.Proofs.Ytifnmfljlgaeoaa.planeRotates
