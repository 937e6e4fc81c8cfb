/- Contract of the reference's Names of layer 5. -/
import Derived.Test.YtcfnilemikenhaaCpSpec
import Derived.Test.YtcfnilemikenhaaRcFrom
import Derived.Test.YtcfnilemikenhaaRhAll
import Derived.Test.YtcfnilemikenhaaRhBase
namespace Go.Proofs.Ytcfnilemikenhaa
open Go Go.RowKit Fl

/-- The list f 0, f 1, .. of n elements. -/
def mapR {α : Type} (n : Nat) (f : Nat → α) : List α := (List.range n).map f
theorem mapR_length {α : Type} (n : Nat) (f : Nat → α) : (mapR n f).length = n := by simp [mapR]
theorem mapR_at {α : Type} {n k : Nat} {f : Nat → α} (h : k < (mapR n f).length) : (mapR n f)[k] = f k := by simp [mapR]
theorem mapR_congr {α : Type} {n : Nat} {f f' : Nat → α} (h : ∀ i, i < n → f i = f' i) : mapR n f = mapR n f' := by
  unfold mapR
  exact List.map_congr_left fun i hi => h i (List.mem_range.1 hi)
theorem mapR_set {α : Type} {n k : Nat} {f f' : Nat → α} {z : α} (hz : f' k = z) (hf : ∀ i, i ≠ k → f' i = f i) : (mapR n f).set k z = mapR n f' := by
  refine List.ext_getElem (by simp [mapR]) fun i h1 h2 => ?_
  rw [List.getElem_set]
  by_cases h : k = i
  · subst h; rw [if_pos rfl, mapR_at, hz]
  · rw [if_neg h, mapR_at, mapR_at, hf i (fun e => h e.symm)]
theorem mapR_same {α : Type} (n : Nat) (z : α) : mapR n (fun _ => z) = List.replicate n z := by simp [mapR, List.map_const']
theorem reach_in {g : GraphD} {s : List Bool} {w : World} {b o a k : Nat} (h : Holds w (some ⟨b, o, none⟩) ((reachL g s a).map Bo)) (hk : k < g.length) : ∃ z, w.cell? ⟨b, o + k, none⟩ = some (.bool z) ∧ (z = true ↔ PathG g s a k) := by
  obtain ⟨b', o', z, hA, h1, h2⟩ := reach_at rfl h hk
  injection hA with hA
  injection hA with e1 e2
  subst e1 e2
  exact ⟨z, h1, h2⟩
/-- out, when vertices before v have their names, and v has z. -/
noncomputable def nmF (g : GraphD) (s : List Bool) (v : Nat) (z : Int) (x : Nat) : Int := if x < v then nameOf g s x else if x = v then z else 0
theorem nmF_start (g : GraphD) (s : List Bool) : mapR g.length (nmF g s 0 0) = List.replicate g.length 0 := by
  rw [← mapR_same]
  exact mapR_congr fun i _ => by unfold nmF; rw [if_neg (by omega)]; split <;> rfl
theorem nmF_put {g : GraphD} {s : List Bool} {v : Nat} {z z' : Int} : (mapR g.length (nmF g s v z)).set v z' = mapR g.length (nmF g s v z') :=
  mapR_set (by unfold nmF; rw [if_neg (by omega), if_pos rfl]) fun i hi => by unfold nmF; rw [if_neg hi, if_neg hi]
theorem nmF_next {g : GraphD} {s : List Bool} {v : Nat} {z : Int} (hz : z = nameOf g s v) : mapR g.length (nmF g s v z) = mapR g.length (nmF g s (v + 1) 0) := mapR_congr fun i _ => by
  unfold nmF
  by_cases h1 : i < v
  · rw [if_pos h1, if_pos (by omega)]
  · by_cases h2 : i = v
    · subst h2; rw [if_neg h1, if_pos rfl, if_pos (by omega), hz]
    · rw [if_neg h1, if_neg h2, if_neg (by omega)]; split <;> rfl
theorem nmF_end (g : GraphD) (s : List Bool) : mapR g.length (nmF g s g.length 0) = namesL g s := by
  unfold namesL mapR
  exact List.map_congr_left fun i hi => by unfold nmF; rw [if_pos (List.mem_range.1 hi)]
/-- What is known of z, the name of v so far, when the vertices before k are tried. -/
def NmRel (g : GraphD) (s : List Bool) (v k : Nat) (z : Int) : Prop := (z = -1 ∧ k ≤ v + 1 ∧ ∀ u, u < k → ¬ both g s v u) ∨ (z = nameOf g s v ∧ 0 ≤ z)
theorem NmRel.start (g : GraphD) (s : List Bool) (v : Nat) : NmRel g s v 0 (-1) := .inl ⟨rfl, by omega, fun u hu => by omega⟩
theorem NmRel.no {g : GraphD} {s : List Bool} {v k : Nat} (h : NmRel g s v k (-1)) (hk : k ≤ v) (hn : ¬ both g s v k) : NmRel g s v (k + 1) (-1) := by
  rcases h with ⟨_, h1, h2⟩ | ⟨h1, h2⟩
  · refine .inl ⟨rfl, by omega, fun u hu => ?_⟩
    rcases Nat.lt_succ_iff_lt_or_eq.1 hu with h | rfl
    · exact h2 u h
    · exact hn
  · omega
theorem NmRel.yes {g : GraphD} {s : List Bool} {v k : Nat} (h : NmRel g s v k (-1)) (hy : both g s v k) : NmRel g s v (k + 1) k := by
  rcases h with ⟨_, h1, h2⟩ | ⟨h1, h2⟩
  · refine .inr ⟨?_, by omega⟩
    rcases name_cases g s v with ⟨_, h3⟩ | ⟨w, h3, _, h4, h5⟩
    · exact absurd hy.1.left h3
    · rw [h3]
      have h6 : ¬ w < k := fun hl => h2 w hl h4
      have h7 : ¬ k < w := fun hl => h5 k hl hy
      omega
  · omega
theorem NmRel.done {g : GraphD} {s : List Bool} {v k : Nat} {z : Int} (h : NmRel g s v k z) (hd : ¬ (k ≤ v ∧ z < 0)) : z = nameOf g s v := by
  rcases h with ⟨h0, h1, h2⟩ | ⟨h1, h2⟩
  · rcases name_cases g s v with ⟨h3, _⟩ | ⟨w, h3, h4, h5, _⟩
    · rw [h0, h3]
    · exact absurd h5 (h2 w (by omega))
  · exact h1
def IntsPost (w : World) (l : List Int) (k : Int) (e : Ending) (w' : World) : Prop := ∃ u, e = .returned (.tuple #[u, .int .i64 k]) ∧ w'.ownsRow w.heap.size 3 1 u l.length (l.map Iv) ∧ Below w.heap.size w w'
open Classical in
noncomputable def nmL (g : GraphD) (s : List Bool) : List Int := if chkG g s.length = 0 then namesL g s else []
end Go.Proofs.Ytcfnilemikenhaa
