/- What the walks of layer 4's laws ask of the functions of reach, as properties: a developers' contract for each gives them. -/
import Derived.Test.YtifnmfljlgaeoaaRcFrom
import Derived.Test.YtifnmfljlgaeoaaRcRevP
namespace Go.Proofs.Ytifnmfljlgaeoaa
open Go Go.RowKit Fl

def FromRes (w : World) (l : List Bool) (k : Int) (e : Ending) (w' : World) : Prop := ∃ A c, e = .returned (.tuple #[.slice A l.length c, .int .i64 k]) ∧ Holds w' A (l.map Bo) ∧ Below w.heap.size w w'
def GraphRes (w : World) (l : GraphD) (k : Int) (e : Ending) (w' : World) : Prop := ∃ A c, e = .returned (.tuple #[.slice A l.length c, .int .i64 k]) ∧ RowsAt w' A l ∧ Below w.heap.size w w'
def Sized (g : GraphD) : Prop := g.length ≤ 1000000000000000000 ∧ ∀ r ∈ g, r.length ≤ 1000000000000000000
theorem Sized.valid {g : GraphD} (h : validG g = true) : Sized g := ⟨by have := validG_len h; omega, fun r hr => by have := validG_short h r hr; omega⟩
end Go.Proofs.Ytifnmfljlgaeoaa
