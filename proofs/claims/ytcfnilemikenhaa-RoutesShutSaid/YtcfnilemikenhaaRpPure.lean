/- routes' rounds over the graph without the edges at shut vertices find the reference's distances and hops. No program is named here. -/
import Derived.Test.YtcfnilemikenhaaGsDist
import Derived.Test.YtcfnilemikenhaaRcSpec
namespace Go.Proofs.Ytcfnilemikenhaa.Fl

/-- The least vertex of a list that has this distance. -/
def leastAtF (l dist : List Int) (d : Int) : Int := (l.find? (fun x => decide (atI dist x = d))).getD (-1)
theorem leastAt_step {l dist : List Int} {d : Int} {k : Nat} (hk : k < l.length) : leastAtF (l.drop k) dist d = if atI dist l[k] = d then l[k] else leastAtF (l.drop (k + 1)) dist d := by
  unfold leastAtF
  rw [List.drop_eq_getElem_cons hk, List.find?_cons]
  by_cases h : atI dist l[k] = d
  · simp [h]
  · simp [h]
theorem leastAt_end {l dist : List Int} {d : Int} {k : Nat} (hk : l.length ≤ k) : leastAtF (l.drop k) dist d = -1 := by
  unfold leastAtF; rw [List.drop_of_length_le hk]; rfl
theorem leastAt_any {l dist : List Int} {d : Int} (h0 : ∀ x ∈ l, 0 ≤ x) : decide (0 ≤ leastAtF l dist d) = l.any (fun x => decide (atI dist x = d)) := by
  unfold leastAtF
  rcases h : l.find? (fun x => decide (atI dist x = d)) with _ | y
  · have h1 := List.find?_eq_none.1 h
    have : l.any (fun x => decide (atI dist x = d)) = false := by
      rw [List.any_eq_false]
      exact fun x hx => h1 x hx
    rw [this]
    rfl
  · have h1 := List.find?_some h
    have h2 := List.mem_of_find?_eq_some h
    have : l.any (fun x => decide (atI dist x = d)) = true := List.any_eq_true.2 ⟨y, h2, h1⟩
    rw [this]
    exact decide_eq_true (h0 y h2)
theorem woRow_any {s : List Bool} {l out : List Int} {d : Int} (ho : ∀ u, 0 ≤ dAt out u → atB s u = false) (hd : 0 ≤ d) : (woRow s l).any (fun x => decide (atI out x = d)) = l.any (fun x => decide (atI out x = d)) := by
  rw [Bool.eq_iff_iff, List.any_eq_true, List.any_eq_true]
  unfold woRow
  constructor
  · rintro ⟨x, hx, h⟩
    exact ⟨x, (List.mem_filter.1 hx).1, h⟩
  · rintro ⟨x, hx, h⟩
    refine ⟨x, List.mem_filter.2 ⟨hx, ?_⟩, h⟩
    have h1 : atI out x = d := of_decide_eq_true h
    have h2 := ho x.toNat (by show 0 ≤ atI out x; omega)
    simp [h2]
/-- One vertex in a round: over the graph without the edges at shut vertices as over the graph. -/
theorem distV_wo {g : GraphD} {s : List Bool} {out : List Int} {v : Nat} {d : Int} (hv : v < g.length) (hd : 1 ≤ d) (ho : ∀ u, 0 ≤ dAt out u → atB s u = false) : distV (woG g s) [] d out v = distV g s d out v := by
  have hn : atB [] v = false := rfl
  unfold distV
  rw [hn, woG_row hv]
  rcases hs : atB s v with _ | _
  · simp only [Bool.false_or, Bool.false_eq_true, if_false]
    rw [woRow_any ho (by omega)]
  · simp
theorem distR_wo {g : GraphD} {s : List Bool} {out : List Int} {d : Int} (hd : 1 ≤ d) (ho : ∀ u, 0 ≤ dAt out u → atB s u = false) : ∀ k, k ≤ g.length → distR (woG g s) [] d out k = distR g s d out k
  | 0, _ => rfl
  | k + 1, hk => by
    rw [distR_succ, distR_succ, distR_wo hd ho k (by omega)]
    exact distV_wo (by omega) hd (distR_open ho k)
theorem distK_wo {g : GraphD} {s : List Bool} {out : List Int} (ho : ∀ u, 0 ≤ dAt out u → atB s u = false) : ∀ k, distK (woG g s) [] out k = distK g s out k
  | 0 => rfl
  | k + 1 => by
    rw [distK_succ, distK_succ, distK_wo ho k, woG_length]
    exact distR_wo (by omega) (distK_open ho k) _ (Nat.le_refl _)
/-- A round past the last one changes nothing. -/
theorem distR_idle {g : GraphD} {s : List Bool} {goal : Nat} {out : List Int} (hg : validG g = true) (hn : 1 ≤ g.length) (h : DistInv g goal ((g.length : Int) - 1) out) : ∀ k, k ≤ g.length → distR g s (g.length : Int) out k = out
  | 0, _ => rfl
  | k + 1, hk => by
    rw [distR_succ, distR_idle hg hn h k (by omega)]
    have hinv := distV_inv (s := s) (v := k) hg (by omega) (d := (g.length : Int)) (by omega) (h.more (by omega))
    unfold distV at hinv ⊢
    split
    · rfl
    · rename_i h1
      split
      · rename_i h2
        rw [if_neg h1, if_pos h2] at hinv
        exfalso
        have := dist_small hinv (k := g.length) (u := k) (by omega) (by rw [dAt_set (by rw [h.len]; omega), if_pos rfl])
        omega
      · rfl
theorem dist_dev {g : GraphD} {s : List Bool} {goal : Nat} (hg : validG g = true) (hgo : goal < g.length) (hs : atB s goal = false) : distK (woG g s) [] ((List.replicate g.length (-1)).set goal 0) g.length = distF g s goal := by
  have h0 := dist_start (g := g) hgo
  have ho := start_open hgo hs
  rw [distK_wo ho]
  unfold distF
  rw [hs]
  simp only [Bool.false_eq_true, if_false]
  obtain ⟨m, hm⟩ : ∃ m, g.length = m + 1 := ⟨g.length - 1, by omega⟩
  have h1 := distK_inv (s := s) hg h0 m
  have h2 := distR_idle (s := s) hg (by omega) (h1.more (by omega)) g.length (Nat.le_refl _)
  conv => lhs; rw [hm]
  rw [distK_succ, hm, Nat.add_sub_cancel]
  rw [hm] at h2
  rw [show ((m : Int) + 1) = ((m + 1 : Nat) : Int) by omega]
  exact h2
theorem distF_open {g : GraphD} {s : List Bool} {goal : Nat} (hgo : goal < g.length) : ∀ u, 0 ≤ dAt (distF g s goal) u → atB s u = false := by
  rcases hs : atB s goal with _ | _
  · unfold distF
    rw [hs]
    exact distK_open (start_open hgo hs) _
  · intro u hu
    rw [distF_shut hs] at hu
    exfalso
    unfold dAt at hu
    rw [List.getD_eq_getElem?_getD, List.getElem?_replicate] at hu
    split at hu <;> simp at hu
/-- The hop over the graph without the edges at shut vertices. -/
theorem hop_dev {g : GraphD} {s : List Bool} {dist : List Int} {v : Nat} (hv : v < g.length) (ho : ∀ u, 0 ≤ dAt dist u → atB s u = false) (hp : 0 < dAt dist v) : leastAtF (rowG (woG g s) v) dist (dAt dist v - 1) = hopV g dist v := by
  have hsv := ho v (by omega)
  unfold hopV
  rw [if_pos hp, woG_row hv, hsv]
  unfold leastAtF hopOf woRow
  simp only [Bool.false_eq_true, if_false]
  rw [List.find?_filter]
  congr 2
  funext x
  rw [decide_eq_decide]
  constructor
  · rintro ⟨_, h⟩
    exact of_decide_eq_true h
  · intro h
    have h : atI dist x = dAt dist v - 1 := h
    have h2 := ho x.toNat (by show 0 ≤ atI dist x; omega)
    exact ⟨by rw [h2]; rfl, decide_eq_true h⟩
end Go.Proofs.Ytcfnilemikenhaa.Fl
