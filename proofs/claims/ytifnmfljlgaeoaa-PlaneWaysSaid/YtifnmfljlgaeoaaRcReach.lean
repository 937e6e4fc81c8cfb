/- Contracts of the reference's Reach and From of layer 4: which vertices a vertex reaches. -/
import Derived.Test.YtifnmfljlgaeoaaRcBfs
import Derived.Test.YtifnmfljlgaeoaaRcQueue
import Derived.Test.YtifnmfljlgaeoaaGrValid
import Derived.Test.YtifnmfljlgaeoaaGrSame
import Derived.Deep.LoopGhost
namespace Go.Proofs.Ytifnmfljlgaeoaa
open Go Go.RowKit Fl

theorem own_row_other {w w' : World} {base n : Nat} {e t : TypeId} {v : Value} {xs : List Value} {row : Option Nat} (h : w.ownsRow base e 1 v n xs) (hg : w.grownBy w' row) (hr : ∀ k, row = some k → ∃ cur, w.heap[k]? = some (.cells cur t (0, 0))) (ht : e ≠ t) : w'.ownsRow base e 1 v n xs := by
  obtain ⟨h1, hr1⟩ := h
  refine ⟨h1, ?_⟩
  rcases hr1 with hr1 | ⟨b, cap, cur, hv, hgb, hh, hrest⟩
  · exact .inl hr1
  · refine .inr ⟨b, cap, cur, hv, hgb, (hg.block b (block_lt hh) (fun e1 => ?_)).trans hh, hrest⟩
    obtain ⟨cur', h2⟩ := hr b e1.symm
    rw [hh] at h2
    injection h2 with h2
    injection h2 with _ h3
    exact ht h3
theorem own_marks {w : World} {base n g cap : Nat} {L : List Bool} (h : w.ownsRow base 4 1 (.slice (some ⟨g, 0, none⟩) n cap) n (L.map Bo)) (i : Nat) (hi : i < L.length) : w.cell? ⟨g, i, none⟩ = some (.bool L[i]) ∧ w.frozen? ⟨g, i, none⟩ = false :=
  own_get h (by simp [hi])
theorem own_marks_set {w : World} {base n g cap : Nat} {L : List Bool} (h : w.ownsRow base 4 1 (.slice (some ⟨g, 0, none⟩) n cap) n (L.map Bo)) (i : Nat) (z : Bool) : (w.setCell ⟨g, i, none⟩ (.bool z)).ownsRow base 4 1 (.slice (some ⟨g, 0, none⟩) n cap) n ((L.set i z).map Bo) := by
  rw [List.map_set]; exact own_put h
theorem own_row_block {w : World} {base n g cap : Nat} {e : TypeId} {xs : List Value} (h : w.ownsRow base e 1 (.slice (some ⟨g, 0, none⟩) n cap) n xs) : ∃ cs, w.heap[g]? = some (.cells cs e (0, 0)) := by
  obtain ⟨_, h⟩ := h
  rcases h with ⟨hv, _⟩ | ⟨g', cap', cur, hv, _, hh, _⟩
  · cases hv
  · injection hv with hA _ _
    injection hA with hA
    injection hA with hA
    subst hA
    exact ⟨cur, hh⟩
theorem atB_at {s : List Bool} {v : Nat} (h : v < s.length) : atB s v = s[v] := by unfold atB; rw [List.getD_eq_getElem?_getD, List.getElem?_eq_getElem h]; rfl
theorem alloc_set (w : World) (a : Addr) (u : Value) (o : Obj) : ((w.setCell a u).alloc o).heap[w.heap.size]? = some o := by
  have h := heap_alloc_new (w.setCell a u) o
  have e : (w.setCell a u).heap.size = w.heap.size := by simp [World.setCell]
  rwa [e] at h
end Go.Proofs.Ytifnmfljlgaeoaa
