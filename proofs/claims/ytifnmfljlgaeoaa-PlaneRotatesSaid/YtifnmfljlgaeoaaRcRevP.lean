/- The reversed graph, row by row; what Reverse returns. -/
import Derived.Test.YtifnmfljlgaeoaaRcWo
namespace Go.Proofs.Ytifnmfljlgaeoaa
open Go Go.RowKit Fl

/-- Row x, when vertices before v are through, and m elements of v's row. -/
def revF (g : GraphD) (v m x : Nat) : List Int := intoK g v x ++ (if (x : Int) ∈ (rowG g v).take m then [(v : Int)] else [])
theorem intoK_succ (g : GraphD) (v x : Nat) : intoK g (v + 1) x = intoK g v x ++ (if (x : Int) ∈ rowG g v then [(v : Int)] else []) := by
  unfold intoK
  rw [List.range_succ, List.filter_append, List.map_append]
  congr 1
  by_cases h : (x : Int) ∈ rowG g v
  · simp [h]
  · simp [h]
theorem intoK_short (g : GraphD) (v x : Nat) : (intoK g v x).length ≤ v := by
  unfold intoK
  rw [List.length_map]
  exact Nat.le_trans (List.length_filter_le _ _) (by simp)
theorem revF_start (g : GraphD) : rowsF g.length (revF g 0 0) = List.replicate g.length [] := by
  rw [← rowsF_nil]
  exact rowsF_congr fun i _ => by simp [revF, intoK]
theorem revF_next {g : GraphD} {v m : Nat} (hm : (rowG g v).length ≤ m) : rowsF g.length (revF g v m) = rowsF g.length (revF g (v + 1) 0) := by
  refine rowsF_congr fun i _ => ?_
  unfold revF
  rw [intoK_succ, List.take_of_length_le hm]
  simp
theorem revF_end (g : GraphD) : rowsF g.length (revF g g.length 0) = revG g := by
  unfold revG rowsF
  exact List.map_congr_left fun i _ => by simp [revF]
theorem revF_put {g : GraphD} {v m y : Nat} (hg : validG g = true) (hv : v < g.length) (hm : m < (rowG g v).length) (hx : (rowG g v)[m] = (y : Int)) (hyg : y < (rowsF g.length (revF g v m)).length) : (rowsF g.length (revF g v m)).set y ((rowsF g.length (revF g v m))[y] ++ [(v : Int)]) = rowsF g.length (revF g v (m + 1)) := by
  rw [rowsF_at]
  have hs : (rowG g v).Pairwise (· < ·) := by rw [rowG_at hv]; exact validG_sorted' hg hv
  refine rowsF_set ?_ fun i hi => ?_
  · unfold revF
    have hn : (y : Int) ∉ (rowG g v).take m := fun h => by
      obtain ⟨j, hj, e⟩ := List.mem_iff_getElem.1 h
      rw [List.getElem_take] at e
      have hjm : j < m := by rw [List.length_take] at hj; omega
      have := List.pairwise_iff_getElem.1 hs j m (by omega) hm hjm
      omega
    rw [List.take_succ_eq_append_getElem hm, hx, if_neg hn, if_pos (by simp)]
    simp
  · unfold revF
    rw [List.take_succ_eq_append_getElem hm, hx]
    have hne : (i : Int) ≠ y := by omega
    congr 1
    by_cases h : (i : Int) ∈ (rowG g v).take m
    · rw [if_pos h, if_pos (by simp [h])]
    · rw [if_neg h, if_neg (by simp [h, hne])]
theorem revF_short (g : GraphD) (v m x : Nat) : (revF g v m x).length ≤ v + 1 := by
  unfold revF
  have := intoK_short g v x
  rw [List.length_append]
  split <;> simp <;> omega
def revL (g : GraphD) : GraphD := if validG g then revG g else []
def revE (g : GraphD) : Int := if validG g then 0 else 20
end Go.Proofs.Ytifnmfljlgaeoaa
