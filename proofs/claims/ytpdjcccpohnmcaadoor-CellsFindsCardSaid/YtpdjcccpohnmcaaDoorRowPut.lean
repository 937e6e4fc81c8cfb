/- A row is put into the place of another one in a slice of rows. -/
import Derived.Test.YtpdjcccpohnmcaaDoorMjM
namespace Go.Proofs.YtpdjcccpohnmcaaDoor
open Go Go.RowKit Fl

theorem own_to {w w' : World} {base n : Nat} {e : TypeId} {v : Value} {xs : List Value} (h : w.ownsRow base e 1 v n xs) (hs : ∀ k, v.ownBlock = some k → k < w.heap.size → w'.heap[k]? = w.heap[k]?) : w'.ownsRow base e 1 v n xs := by
  obtain ⟨h1, hr⟩ := h
  refine ⟨h1, ?_⟩
  rcases hr with hr | ⟨g, cap, cur, hv, hgb, hh, hrest⟩
  · exact .inl hr
  · exact .inr ⟨g, cap, cur, hv, hgb, (hs g (by rw [hv]; rfl) (block_lt hh)).trans hh, hrest⟩
theorem own_type {w : World} {base n k : Nat} {e : TypeId} {v : Value} {xs : List Value} (h : w.ownsRow base e 1 v n xs) (hk : v.ownBlock = some k) : ∃ cs, w.heap[k]? = some (.cells cs e (0, 0)) := by
  obtain ⟨_, hr⟩ := h
  rcases hr with ⟨rfl, _⟩ | ⟨g, cap, cur, rfl, _, hh, _⟩
  · simp [Value.ownBlock] at hk
  · simp [Value.ownBlock] at hk
    subst hk
    exact ⟨cur, hh⟩
/-- A new row is put into the place of another one. -/
theorem RowsOwn.place {w w' : World} {base q n cap i : Nat} {g : GraphD} {u : Value} {r : List Int} (h : RowsOwn w base (.slice (some ⟨q, 0, none⟩) n cap) g) (hn : n = g.length) (hw : ∀ k, k < w.heap.size → w'.heap[k]? = (w.setCell ⟨q, i, none⟩ u).heap[k]?) (hu : w'.ownsRow base 3 1 u r.length (r.map Iv)) : RowsOwn w' base (.slice (some ⟨q, 0, none⟩) n cap) (g.set i r) := by
  subst hn
  obtain ⟨vs, h1, h2, h3⟩ := h
  obtain ⟨cs, hq⟩ := own_type h2 (k := q) rfl
  have h4 := own_put (i := i) (v := u) h2
  have hqs : (w.setCell ⟨q, i, none⟩ u).heap.size = w.heap.size := by simp [World.setCell]
  refine ⟨vs.set i u, by simpa using h1, ?_, fun j u' r' hj hr' => ?_⟩
  · rw [List.length_set]
    exact own_to h4 fun k _ hk => hw k (by omega)
  · rw [List.getElem?_set] at hj hr'
    by_cases e : i = j
    · subst e
      rw [if_pos rfl] at hj hr'
      split at hj
      · split at hr'
        · injection hj with hj
          injection hr' with hr'
          subst hj hr'
          exact hu
        · cases hr'
      · cases hj
    · rw [if_neg e] at hj hr'
      have h5 := h3 j u' r' hj hr'
      refine own_to h5 fun k hk hlt => ?_
      rw [hw k hlt, Below.heap_setCell _ _ _ _ (fun e2 => ?_)]
      obtain ⟨cs2, h6⟩ := own_type h5 hk
      simp only at e2
      rw [e2, hq] at h6
      injection h6 with h6
      injection h6 with _ h7
      exact absurd h7 (by decide)
end Go.Proofs.YtpdjcccpohnmcaaDoor
