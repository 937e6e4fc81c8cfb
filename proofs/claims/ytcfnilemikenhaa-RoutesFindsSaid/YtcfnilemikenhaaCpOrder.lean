/- Contract of the reference's Order of layer 5. -/
import Derived.Test.YtcfnilemikenhaaCpNames
import Derived.Test.YtcfnilemikenhaaGrHas
import Derived.Deep.LoopGhost
namespace Go.Proofs.Ytcfnilemikenhaa
open Go Go.RowKit Fl

open Classical in
noncomputable def ordL (g : GraphD) (s : List Bool) : List Int := if chkG g s.length = 0 then orderL g s else []
/-- The least candidate from j on. -/
def BestRel (g : GraphD) (s : List Bool) (L : List Int) (j : Nat) (z : Int) : Prop :=
  (z = -1 ∧ ∀ u, j ≤ u → u < g.length → cand g s L u = false) ∨ ∃ a : Nat, z = a ∧ a < g.length ∧ cand g s L a = true ∧ ∀ u, j ≤ u → u < a → cand g s L u = false
theorem BestRel.start (g : GraphD) (s : List Bool) (L : List Int) : BestRel g s L g.length (-1) := .inl ⟨rfl, fun u h1 h2 => by omega⟩
theorem BestRel.no {g : GraphD} {s : List Bool} {L : List Int} {j : Nat} {z : Int} (h : BestRel g s L (j + 1) z) (hc : cand g s L j = false) : BestRel g s L j z := by
  rcases h with ⟨h1, h2⟩ | ⟨a, h1, h2, h3, h4⟩
  · refine .inl ⟨h1, fun u hu hn => ?_⟩
    rcases Nat.eq_or_lt_of_le hu with rfl | h
    · exact hc
    · exact h2 u h hn
  · refine .inr ⟨a, h1, h2, h3, fun u hu hn => ?_⟩
    rcases Nat.eq_or_lt_of_le hu with rfl | h
    · exact hc
    · exact h4 u h hn
theorem BestRel.yes {g : GraphD} {s : List Bool} {L : List Int} {j : Nat} (hj : j < g.length) (hc : cand g s L j = true) : BestRel g s L j j := .inr ⟨j, rfl, hj, hc, fun u h1 h2 => by omega⟩
theorem BestRel.low {g : GraphD} {s : List Bool} {L : List Int} {j : Nat} {z : Int} (h : BestRel g s L j z) : -1 ≤ z ∧ z < 1000 + g.length := by
  rcases h with ⟨h1, _⟩ | ⟨a, h1, h2, _⟩ <;> omega
theorem BestRel.best {g : GraphD} {s : List Bool} {L : List Int} {z : Int} (h : BestRel g s L 0 z) : (z = -1 ∧ best g s L = none) ∨ ∃ a : Nat, z = a ∧ best g s L = some a := by
  rcases h with ⟨h1, h2⟩ | ⟨a, h1, h2, h3, h4⟩
  · refine .inl ⟨h1, ?_⟩
    rcases e : Fl.best g s L with _ | k
    · rfl
    · obtain ⟨h3, h4⟩ := best_some e
      rw [h2 k (Nat.zero_le _) h3] at h4
      cases h4
  · exact .inr ⟨a, h1, leastF_is h2 h3 fun j hj => h4 j (Nat.zero_le _) hj⟩
theorem cand_no1 {g : GraphD} {s : List Bool} {L : List Int} {v : Nat} (h : nameOf g s v ≠ v) : cand g s L v = false := by
  rcases e : cand g s L v with _ | _
  · rfl
  · exact absurd (cand_iff.1 e).1 h
theorem cand_no2 {g : GraphD} {s : List Bool} {L : List Int} {v : Nat} (h : (v : Int) ∈ L) : cand g s L v = false := by
  rcases e : cand g s L v with _ | _
  · rfl
  · exact absurd h (cand_iff.1 e).2.1
/-- None of the names before k that are left leads to v. -/
def NoneTo (g : GraphD) (s : List Bool) (L : List Int) (v k : Nat) : Prop := ∀ u : Nat, u < k → nameOf g s u = u → u ≠ v → (u : Int) ∉ L → ¬ PathG g s u v
theorem NoneTo.skip {g : GraphD} {s : List Bool} {L : List Int} {v k : Nat} {b : Bool} (h : b = true ↔ NoneTo g s L v k) (hn : nameOf g s k = k → k ≠ v → (k : Int) ∉ L → ¬ PathG g s k v) : b = true ↔ NoneTo g s L v (k + 1) := by
  rw [h]
  constructor
  · intro h u hu
    rcases Nat.lt_succ_iff_lt_or_eq.1 hu with h1 | rfl
    · exact h u h1
    · exact hn
  · exact fun h u hu => h u (by omega)
theorem NoneTo.hit {g : GraphD} {s : List Bool} {L : List Int} {v k : Nat} (h1 : nameOf g s k = k) (h2 : k ≠ v) (h3 : (k : Int) ∉ L) (h4 : PathG g s k v) : false = true ↔ NoneTo g s L v (k + 1) :=
  ⟨fun h => by (cases h), fun h => absurd h4 (h k (by omega) h1 h2 h3)⟩
theorem ints_in {w : World} {b o k : Nat} {l : List Int} (h : Holds w (some ⟨b, o, none⟩) (l.map Iv)) (hk : k < l.length) : w.cell? ⟨b, o + k, none⟩ = some (.int .i64 l[k]) := by
  obtain ⟨b', o', hA, h1⟩ := h.iv hk
  injection hA with hA
  injection hA with e1 e2
  subst e1 e2
  exact h1
end Go.Proofs.Ytcfnilemikenhaa
