/- What the walks of layer 8's laws ask of plane's functions; the statements' example. -/
import Derived.Test.YtifnmfljlgaeoaaPlMade
import Derived.Test.YtifnmfljlgaeoaaPlSquare
import Derived.Test.YtifnmfljlgaeoaaPlArea2
import Derived.Test.YtifnmfljlgaeoaaPlFloat
namespace Go.Proofs.Ytifnmfljlgaeoaa
open Go Go.RowKit Fl

/-- A complex number of whole parts. -/
def CpxF (v : Value) (x y : Int) : Prop := ∃ re im, v = .complex .f64 re im ∧ IsF re x ∧ IsF im y
def DevAt : Prop := ∀ (b : BlockD) (w : World), Calls Try.prog 23 #[BV b] w fun e w' => ∃ v, e = .returned v ∧ CpxF v (if okB b then b.x else 0) (if okB b then b.y else 0) ∧ Below w.heap.size w w'
def DevStep : Prop := ∀ (a b : BlockD) (w : World), Calls Try.prog 20 #[BV a, BV b] w fun e w' => ∃ v, e = .returned v ∧ CpxF v (if twoB a b then b.x - a.x else 0) (if twoB a b then b.y - a.y else 0) ∧ Below w.heap.size w w'
def DevTurn : Prop := ∀ (a b c : BlockD) (w : World), Calls Try.prog 22 #[BV a, BV b, BV c] w fun e w' => e = .returned (.tuple #[.int .i64 (turnR a b c), .int .i64 (turnE a b c)]) ∧ Below w.heap.size w w'
def DevTurns : Prop := ∀ (A : Option Addr) (c : Nat) (l : List BlockD) (w : World), Holds w A (blockCells l) → l.length ≤ 1000000000000000000 → Calls Try.prog 13 #[.slice A l.length c] w fun e w' => ∃ X cx, e = .returned (.tuple #[.slice X (turnsR l).length cx, .int .i64 (wayE l)]) ∧ Holds w' X ((turnsR l).map Iv) ∧ Below w.heap.size w w'
def DevArea : Prop := ∀ (A : Option Addr) (c : Nat) (l : List BlockD) (w : World), Holds w A (blockCells l) → l.length ≤ 1000000000000000000 → Calls Try.prog 15 #[.slice A l.length c] w fun e w' => e = .returned (.tuple #[.int .i64 (areaR l), .int .i64 (wayE l)]) ∧ Below w.heap.size w w'
def DevSquare : Prop := ∀ (a b : BlockD) (w : World), Calls Try.prog 19 #[BV a, BV b] w fun e w' => e = .returned (.tuple #[.int .i64 (squareR a b), .int .i64 (twoBE a b)]) ∧ Below w.heap.size w w'
def DevRotate : Prop := ∀ (b : BlockD) (q : Int) (w : World), b.name.length ≤ 140737488355328 → -9223372036854775808 ≤ q ∧ q ≤ 9223372036854775807 → Calls Try.prog 21 #[BV b, .int .i64 q] w fun e w' => e = .returned (.tuple #[BV (rotR b q), .int .i64 (oneE b)]) ∧ Below w.heap.size w w'
def DevMirror : Prop := ∀ (b : BlockD) (w : World), b.name.length ≤ 140737488355328 → Calls Try.prog 30 #[BV b] w fun e w' => e = .returned (.tuple #[BV (mirR b), .int .i64 (oneE b)]) ∧ Below w.heap.size w w'
theorem isF_two : IsF 4611686018427387904 2 := ⟨false, 4503599627370496, 51, by decide, by decide⟩
theorem isF_minus3 : IsF 13837309855095848960 (-3) := ⟨true, 6755399441055744, 51, by decide, by decide⟩
theorem exB : okB ⟨[], 2, -3⟩ = true := by decide
theorem exTurn : turnR ⟨[], 0, 0⟩ ⟨[], 1, 0⟩ ⟨[], 1, 1⟩ = 1 ∧ turnE ⟨[], 0, 0⟩ ⟨[], 1, 0⟩ ⟨[], 1, 1⟩ = 0 := by decide
theorem exArea : areaR [⟨[], 0, 0⟩, ⟨[], 1, 0⟩, ⟨[], 1, 1⟩, ⟨[], 0, 1⟩] = 2 ∧ wayE [⟨[], 0, 0⟩, ⟨[], 1, 0⟩, ⟨[], 1, 1⟩, ⟨[], 0, 1⟩] = 0 := by decide
end Go.Proofs.Ytifnmfljlgaeoaa
