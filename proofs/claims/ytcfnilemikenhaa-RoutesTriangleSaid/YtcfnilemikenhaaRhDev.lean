/- What the walks of layer 4's laws ask of the functions of reach, as properties: a developers' contract for each gives them. -/
import Derived.Test.YtcfnilemikenhaaRcFrom
import Derived.Test.YtcfnilemikenhaaRcRevP
namespace Go.Proofs.Ytcfnilemikenhaa
open Go Go.RowKit Fl

def FromRes (w : World) (l : List Bool) (k : Int) (e : Ending) (w' : World) : Prop := ∃ A c, e = .returned (.tuple #[.slice A l.length c, .int .i64 k]) ∧ Holds w' A (l.map Bo) ∧ Below w.heap.size w w'
def GraphRes (w : World) (l : GraphD) (k : Int) (e : Ending) (w' : World) : Prop := ∃ A c, e = .returned (.tuple #[.slice A l.length c, .int .i64 k]) ∧ RowsAt w' A l ∧ Below w.heap.size w w'
def Sized (g : GraphD) : Prop := g.length ≤ 1000000000000000000 ∧ ∀ r ∈ g, r.length ≤ 1000000000000000000
theorem Sized.valid {g : GraphD} (h : validG g = true) : Sized g := ⟨by have := validG_len h; omega, fun r hr => by have := validG_short h r hr; omega⟩
def DevFrom : Prop := ∀ (A B : Option Addr) (c d : Nat) (g : GraphD) (s : List Bool) (v : Int) (w : World), RowsAt w A g → Holds w B (s.map Bo) → Sized g →
  Calls Try.prog 22 #[.slice A g.length c, .slice B s.length d, .int .i64 v] w (FromRes w (fromL g s v) (fromE g s.length v))
def DevValid : Prop := ∀ (A : Option Addr) (c : Nat) (g : GraphD) (w : World), RowsAt w A g → Sized g →
  Calls Try.prog 45 #[.slice A g.length c] w fun e w' => e = .returned (.bool (validG g)) ∧ Below w.heap.size w w'
def DevReverse : Prop := ∀ (A : Option Addr) (c : Nat) (g : GraphD) (w : World), RowsAt w A g → Sized g →
  Calls Try.prog 46 #[.slice A g.length c] w (GraphRes w (revL g) (revE g))
def DevWithout : Prop := ∀ (A B : Option Addr) (c d : Nat) (g : GraphD) (s : List Bool) (w : World), RowsAt w A g → Holds w B (s.map Bo) → Sized g →
  Calls Try.prog 41 #[.slice A g.length c, .slice B s.length d] w (GraphRes w (woL g s) (chkG g s.length))
end Go.Proofs.Ytcfnilemikenhaa
