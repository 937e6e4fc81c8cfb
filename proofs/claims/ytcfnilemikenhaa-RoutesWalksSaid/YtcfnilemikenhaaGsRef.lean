/- Contracts of the reference's Through, Girth and Closed of layer 6, for all graphs. -/
import Derived.Test.YtcfnilemikenhaaGrGirth
import Derived.Test.YtcfnilemikenhaaGrHas
import Derived.Test.YtcfnilemikenhaaRcFrom
import Derived.Test.YtcfnilemikenhaaGsWalk
namespace Go.Proofs.Ytcfnilemikenhaa
open Go Go.RowKit Fl

def girL (g : GraphD) (s : List Bool) : List Int := if chkG g s.length = 0 then girF g s else []
def thrL (g : GraphD) (s : List Bool) (v : Int) : List Int := if fromE g s.length v = 0 then thrF g s v.toNat else []
open Classical in
noncomputable def clsB (g : GraphD) (s : List Bool) (l : List Int) : Bool := decide (chkG g s.length = 0 ∧ ClosedL g s l)
theorem clsB_iff {g : GraphD} {s : List Bool} {l : List Int} : clsB g s l = true ↔ chkG g s.length = 0 ∧ ClosedL g s l := by
  classical
  unfold clsB; exact decide_eq_true_iff
theorem clsB_no {g : GraphD} {s : List Bool} {l : List Int} (h : ¬ (chkG g s.length = 0 ∧ ClosedL g s l)) : clsB g s l = false := by
  rcases e : clsB g s l with _ | _
  · rfl
  · exact absurd (clsB_iff.1 e) h
def WalkPost (w : World) (l : List Int) (k : Int) (e : Ending) (w' : World) : Prop := ∃ u, e = .returned (.tuple #[.int .i64 l.length, u, .int .i64 k]) ∧ w'.ownsRow w.heap.size 3 1 u l.length (l.map Iv) ∧ Below w.heap.size w w'
/-- The next place of a closed walk. -/
theorem closed_iff {g : GraphD} {s : List Bool} {l : List Int} : ClosedL g s l ↔ l ≠ [] ∧ (∀ j (h : j < l.length), okV g s l[j]) ∧ ∀ j (h : j < l.length), edgeI g l[j] (l[(j + 1) % l.length]'(Nat.mod_lt _ (by omega))) := by
  constructor
  · intro h
    refine ⟨h.walk.ne, fun j hj => h.walk.ok _ (List.getElem_mem hj), fun j hj => ?_⟩
    rcases Nat.lt_or_ge (j + 1) l.length with h1 | h1
    · have e : (j + 1) % l.length = j + 1 := Nat.mod_eq_of_lt h1
      exact h.walk.edge j _ _ (List.getElem?_eq_getElem hj) (by rw [← List.getElem?_eq_getElem, e])
    · have e : (j + 1) % l.length = 0 := by rw [show j + 1 = l.length by omega, Nat.mod_self]
      exact h.back _ _ (by rw [← List.getElem?_eq_getElem, e]) (by rw [show l.length - 1 = j by omega]; exact List.getElem?_eq_getElem hj)
  · rintro ⟨h1, h2, h3⟩
    refine ⟨⟨h1, fun x hx => ?_, fun i x y hx hy => ?_⟩, fun x y hx hy => ?_⟩
    · obtain ⟨j, hj, e⟩ := List.mem_iff_getElem.1 hx
      rw [← e]; exact h2 j hj
    · obtain ⟨a1, a2⟩ := List.getElem?_eq_some_iff.1 hx
      obtain ⟨b1, b2⟩ := List.getElem?_eq_some_iff.1 hy
      have := h3 i a1
      have e : l[(i + 1) % l.length]'(Nat.mod_lt _ (by omega)) = y := by
        rw [← b2]
        congr 1
        exact Nat.mod_eq_of_lt b1
      rw [a2, e] at this
      exact this
    · obtain ⟨a1, a2⟩ := List.getElem?_eq_some_iff.1 hx
      obtain ⟨b1, b2⟩ := List.getElem?_eq_some_iff.1 hy
      have := h3 (l.length - 1) b1
      have e : l[(l.length - 1 + 1) % l.length]'(Nat.mod_lt _ (by omega)) = x := by
        rw [← a2]
        congr 1
        rw [show l.length - 1 + 1 = l.length by omega, Nat.mod_self]
      rw [b2, e] at this
      exact this
end Go.Proofs.Ytcfnilemikenhaa
