/- Contracts of the reference's Valid and Check of layer 4: a graph is valid; its first error. -/
import Derived.Test.YtifnmfljlgaeoaaGrMem
namespace Go.Proofs.Ytifnmfljlgaeoaa
open Go Go.RowKit Fl

/-- The first error of a graph with m shut marks. -/
def chkG (g : GraphD) (m : Nat) : Int := if validG g then (if m = g.length then 0 else 19) else 20
end Go.Proofs.Ytifnmfljlgaeoaa
