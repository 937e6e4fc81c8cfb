/- Contract of the reference's Without of layer 4, for all graphs and marks. -/
import Derived.Test.YtifnmfljlgaeoaaRcRows
import Derived.Test.YtifnmfljlgaeoaaRcFrom
import Derived.Deep.RegionLaw
namespace Go.Proofs.Ytifnmfljlgaeoaa
open Go Go.RowKit Fl

/-- Row i, when vertices before v are through, and m elements of v's row. -/
def woF (g : GraphD) (s : List Bool) (v m i : Nat) : List Int := if i < v then (if atB s i then [] else woRow s (rowG g i)) else if i = v then (if atB s v then [] else woRow s ((rowG g v).take m)) else []
theorem woF_start (g : GraphD) (s : List Bool) : rowsF g.length (woF g s 0 0) = List.replicate g.length [] := by
  rw [← rowsF_nil]
  refine rowsF_congr fun i _ => ?_
  unfold woF
  rw [if_neg (show ¬ i < 0 by omega)]
  split
  · split
    · rfl
    · simp [woRow]
  · rfl
theorem woF_next {g : GraphD} {s : List Bool} {v m : Nat} (hm : (rowG g v).length ≤ m) : rowsF g.length (woF g s v m) = rowsF g.length (woF g s (v + 1) 0) := by
  refine rowsF_congr fun i _ => ?_
  unfold woF
  by_cases h1 : i < v
  · rw [if_pos h1, if_pos (show i < v + 1 by omega)]
  · by_cases h2 : i = v
    · subst h2
      rw [if_neg h1, if_pos rfl, if_pos (show i < i + 1 by omega), List.take_of_length_le hm]
    · rw [if_neg h1, if_neg h2, if_neg (show ¬ i < v + 1 by omega)]
      split
      · split
        · rfl
        · simp [woRow]
      · rfl
theorem woF_end (g : GraphD) (s : List Bool) : rowsF g.length (woF g s g.length 0) = woG g s := by
  unfold woG rowsF
  refine List.map_congr_left fun i hi => ?_
  unfold woF
  rw [if_pos (List.mem_range.1 hi)]
theorem woF_skip {g : GraphD} {s : List Bool} {v m : Nat} (h : atB s v = true ∨ ∀ (hm : m < (rowG g v).length), atB s (rowG g v)[m].toNat = true) : rowsF g.length (woF g s v (m + 1)) = rowsF g.length (woF g s v m) := by
  refine rowsF_congr fun i _ => ?_
  unfold woF
  by_cases h1 : i < v
  · rw [if_pos h1, if_pos h1]
  · by_cases h2 : i = v
    · rw [if_neg h1, if_pos h2, if_neg h1, if_pos h2]
      rcases h with h | h
      · rw [if_pos h, if_pos h]
      · congr 1
        by_cases hm : m < (rowG g v).length
        · unfold woRow
          rw [List.take_succ_eq_append_getElem hm, List.filter_append]
          simp [h hm]
        · rw [List.take_of_length_le (by omega), List.take_of_length_le (by omega)]
    · rw [if_neg h1, if_neg h2, if_neg h1, if_neg h2]
theorem woF_put {g : GraphD} {s : List Bool} {v m : Nat} {x : Int} (hv : atB s v = false) (hm : m < (rowG g v).length) (hx : (rowG g v)[m] = x) (hs : atB s x.toNat = false) (hvg : v < (rowsF g.length (woF g s v m)).length) : (rowsF g.length (woF g s v m)).set v ((rowsF g.length (woF g s v m))[v] ++ [x]) = rowsF g.length (woF g s v (m + 1)) := by
  rw [rowsF_at]
  refine rowsF_set ?_ fun i hi => ?_
  · unfold woF
    rw [if_neg (show ¬ v < v by omega), if_pos rfl, if_neg (show ¬ v < v by omega), if_pos rfl, hv]
    unfold woRow
    rw [List.take_succ_eq_append_getElem hm, List.filter_append, hx]
    simp [hs]
  · unfold woF
    by_cases h1 : i < v
    · rw [if_pos h1, if_pos h1]
    · rw [if_neg h1, if_neg hi, if_neg h1, if_neg hi]
/-- What Without returns. -/
def WoPost (w : World) (l : GraphD) (k : Int) (e : Ending) (w' : World) : Prop := ∃ u, e = .returned (.tuple #[u, .int .i64 k]) ∧ RowsOwn w' w.heap.size u l ∧ Below w.heap.size w w'
def woL (g : GraphD) (s : List Bool) : GraphD := if chkG g s.length = 0 then woG g s else []
theorem rowsOwn_nil (w : World) (base : Nat) : RowsOwn w base (.slice none 0 0) [] := ⟨[], rfl, World.ownsRow_nil _ _ _ _, fun k u r h => by simp at h⟩
theorem woF_short {g : GraphD} {s : List Bool} (hg : validG g = true) (v m i : Nat) : (woF g s v m i).length ≤ 24 := by
  have key : ∀ j, (rowG g j).length ≤ 24 := fun j => by
    rcases Nat.lt_or_ge j g.length with h | h
    · rw [rowG_at h]; exact validG_short hg _ (List.getElem_mem h)
    · rw [rowG_out h]; simp
  unfold woF
  split
  · split
    · simp
    · exact Nat.le_trans (List.length_filter_le _ _) (key i)
  · split
    · split
      · simp
      · exact Nat.le_trans (List.length_filter_le _ _) (Nat.le_trans (List.length_take_le' _ _) (key v))
    · simp
theorem size_alloc_drew {w : World} {B : Nat} (h : B ≤ w.heap.size) (o : Obj) : B ≤ ((w.alloc o).drew).heap.size := by
  have e : (w.alloc o).heap.size = w.heap.size + 1 := by simp
  show B ≤ (w.alloc o).heap.size
  omega
end Go.Proofs.Ytifnmfljlgaeoaa
