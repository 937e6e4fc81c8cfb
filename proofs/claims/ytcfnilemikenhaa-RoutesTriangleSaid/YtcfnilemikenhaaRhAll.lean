/- A list of the call's own of rows of the call's own: what vertices reach. -/
import Derived.Test.YtcfnilemikenhaaGrSame
import Derived.Test.YtcfnilemikenhaaRcReach
namespace Go.Proofs.Ytcfnilemikenhaa
open Go Go.RowKit Fl

theorem Try.infoBools : (Try.prog.info? 23).map (fun i => (i.zero, i.size, i.bytes)) = some (some (.slice none 0 0), 1, 24) := by kernel_rfl
/-- A list of the call's own of rows of the call's own: what the first k vertices reach. -/
def AllAt (w : World) (base : Nat) (v : Value) (g : GraphD) (s : List Bool) (k : Nat) : Prop := ∃ vs : List Value, vs.length = k ∧ w.ownsRow base 23 1 v k vs ∧ ∀ j u, vs[j]? = some u → w.ownsRow base 4 1 u g.length ((reachL g s j).map Bo)
theorem AllAt.nil (w : World) (base : Nat) (g : GraphD) (s : List Bool) : AllAt w base (.slice none 0 0) g s 0 := ⟨[], rfl, World.ownsRow_nil _ _ _ _, fun j u h => by simp at h⟩
theorem AllAt.keep {w w' : World} {base : Nat} {v : Value} {g : GraphD} {s : List Bool} {k : Nat} (h : AllAt w base v g s k) (hb : Below w.heap.size w w') : AllAt w' base v g s k := by
  obtain ⟨vs, h1, h2, h3⟩ := h
  exact ⟨vs, h1, ownsRow_below h2 hb, fun j u hu => ownsRow_below (h3 j u hu) hb⟩
theorem AllAt.at_ {w : World} {base q cap : Nat} {g : GraphD} {s : List Bool} {k j : Nat} (h : AllAt w base (.slice (some ⟨q, 0, none⟩) k cap) g s k) (hj : j < k) : ∃ X c, w.cell? ⟨q, j, none⟩ = some (.slice X g.length c) ∧ Holds w X ((reachL g s j).map Bo) := by
  obtain ⟨vs, h1, h2, h3⟩ := h
  have hjv : j < vs.length := by omega
  have hu : vs[j]? = some vs[j] := List.getElem?_eq_getElem hjv
  obtain ⟨X, c, h4, h5⟩ := own_is (h3 j _ hu)
  exact ⟨X, c, by rw [(own_get h2 hu).1, h4], h5⟩
theorem AllAt.form {w : World} {base : Nat} {v : Value} {g : GraphD} {s : List Bool} {k : Nat} (h : AllAt w base v g s k) (hk : 0 < k) : ∃ q cap, v = .slice (some ⟨q, 0, none⟩) k cap := by
  obtain ⟨vs, h1, h2, h3⟩ := h
  obtain ⟨q, cap, h4, _⟩ := own_at h2 hk
  exact ⟨q, cap, h4⟩
/-- One row more. -/
theorem AllAt.app {w w' : World} {base : Nat} {v v' u : Value} {g : GraphD} {s : List Bool} {k : Nat} {vs : List Value} (h1 : vs.length = k) (h2 : w.ownsRow base 23 1 v k vs) (h3 : ∀ j u, vs[j]? = some u → w.ownsRow base 4 1 u g.length ((reachL g s j).map Bo))
    (hu : w.ownsRow base 4 1 u g.length ((reachL g s k).map Bo)) (hg : w.grownBy w' v.ownBlock) (ho : w'.ownsRow base 23 1 v' (k + 1) (vs ++ [u])) : AllAt w' base v' g s (k + 1) := by
  have hr : ∀ q, v.ownBlock = some q → ∃ cur, w.heap[q]? = some (.cells cur 23 (0, 0)) := fun q hq => by
    rcases h2.2 with ⟨hv, _⟩ | ⟨g', cap, cur, hv, _, hh, _⟩
    · rw [hv] at hq; cases hq
    · rw [hv] at hq
      injection hq with hq
      subst hq
      exact ⟨cur, hh⟩
  refine ⟨vs ++ [u], by simp [h1], ho, fun j x hx => ?_⟩
  have key : w.ownsRow base 4 1 x g.length ((reachL g s j).map Bo) := by
    rw [List.getElem?_append] at hx
    split at hx
    · exact h3 j x hx
    · rename_i hjk
      have hjk' : j = k := by
        have := (List.getElem?_eq_some_iff.1 hx).1
        simp at this
        omega
      subst hjk'
      simp [h1] at hx
      subst hx
      exact hu
  exact own_row_other key hg hr (by decide)
end Go.Proofs.Ytcfnilemikenhaa
