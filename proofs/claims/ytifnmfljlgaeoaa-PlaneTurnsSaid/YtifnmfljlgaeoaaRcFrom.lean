/- Contracts of the reference's From and Mutual of layer 4, for all graphs, marks and vertices. -/
import Derived.Test.YtifnmfljlgaeoaaRcReach
namespace Go.Proofs.Ytifnmfljlgaeoaa
open Go Go.RowKit Fl

theorem chkG_cases (g : GraphD) (m : Nat) : (chkG g m = 0 ∧ validG g = true ∧ m = g.length) ∨ chkG g m = 19 ∨ chkG g m = 20 := by
  unfold chkG
  rcases h : validG g with _ | _
  · simp
  · by_cases e : m = g.length
    · left; simp [e]
    · right; left; simp [e]
/-- The error of From. -/
def fromE (g : GraphD) (m : Nat) (v : Int) : Int := if chkG g m = 0 then (if 0 ≤ v ∧ v < g.length then 0 else 19) else chkG g m
open Classical in
noncomputable def fromL (g : GraphD) (s : List Bool) (v : Int) : List Bool := if fromE g s.length v = 0 then reachL g s v.toNat else []
theorem fromL_ok {g : GraphD} {s : List Bool} {v : Int} (h : fromE g s.length v = 0) : fromL g s v = reachL g s v.toNat := by unfold fromL; rw [if_pos h]
theorem fromL_err {g : GraphD} {s : List Bool} {v : Int} (h : fromE g s.length v ≠ 0) : fromL g s v = [] := by unfold fromL; rw [if_neg h]
def FromPost (w : World) (l : List Bool) (k : Int) (e : Ending) (w' : World) : Prop := ∃ u, e = .returned (.tuple #[u, .int .i64 k]) ∧ w'.ownsRow w.heap.size 4 1 u l.length (l.map Bo) ∧ Below w.heap.size w w'
/-- All open vertices reach each other, and there is one. -/
def mutP (g : GraphD) (s : List Bool) : Prop := (∃ v, v < g.length ∧ atB s v = false) ∧ ∀ u v, u < g.length → v < g.length → atB s u = false → atB s v = false → PathG g s u v
open Classical in
noncomputable def mutB (g : GraphD) (s : List Bool) : Bool := decide (chkG g s.length = 0 ∧ mutP g s)
open Classical in
theorem mutB_iff (g : GraphD) (s : List Bool) : mutB g s = true ↔ chkG g s.length = 0 ∧ mutP g s := by unfold mutB; exact decide_eq_true_iff
theorem mutB_no {g : GraphD} {s : List Bool} (h : ¬ (chkG g s.length = 0 ∧ mutP g s)) : mutB g s = false := by
  rcases e : mutB g s with _ | _
  · rfl
  · exact absurd ((mutB_iff g s).1 e) h
end Go.Proofs.Ytifnmfljlgaeoaa
