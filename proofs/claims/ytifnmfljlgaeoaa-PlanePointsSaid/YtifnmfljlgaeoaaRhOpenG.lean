/- Arguments of types [][]int and []bool opened for the walks. -/
import Derived.Test.YtifnmfljlgaeoaaRhOpen
import Derived.Deep.Matrix
import Derived.Deep.Grids
namespace Go.Proofs.Ytifnmfljlgaeoaa
open Go.ChangeShapes Go.WideShapes Go.ChangeAt Go.RowKit Go.Deep Fl

theorem weightsAll_mem {H : Type} {P : Program} {e : TypeId} {d : DataW H} {n : Nat} : ∀ {ds : List (DataW H)}, d ∈ ds → n ∈ d.weights P e → n ∈ DataW.weightsAll P e ds
  | [], h, _ => by simp at h
  | x :: r, h, hn => by
    rw [DataW.weightsAll, List.mem_append]
    rcases List.mem_cons.1 h with rfl | h
    · exact .inl hn
    · exact .inr (weightsAll_mem h hn)
theorem addr_plain {W : World} {a : Addr} {v : Value} (h : W.cell? (a.add 0) = some v) : a = ⟨a.block, a.off, none⟩ := by
  obtain ⟨b, o, s⟩ := a
  have hs : s = none := by simpa [Addr.add] using World.cell?_spot h
  rw [hs]
theorem addr_add (b o j : Nat) : (⟨b, o, none⟩ : Addr).add j = ⟨b, o + j, none⟩ := by
  unfold Addr.add; split <;> simp_all
/-- A row of cells, given one by one. -/
theorem holds_cells {W : World} {a : Addr} {xs : List Value} (h : ∀ j (hj : j < xs.length), W.cell? (a.add j) = some xs[j]) : Holds W (some a) xs := by
  rcases Nat.eq_zero_or_pos xs.length with h0 | h0
  · exact .inl (List.eq_nil_of_length_eq_zero h0)
  · have hp := addr_plain (h 0 h0)
    have hblk := World.block_lt_of_cell? _ _ (h 0 h0)
    rw [hp] at hblk
    refine .inr ⟨a.block, a.off, congrArg some hp, by simpa [Addr.add] using hblk, fun j hj => ?_⟩
    have e := h j hj
    rw [hp, addr_add] at e
    exact e
end Go.Proofs.Ytifnmfljlgaeoaa
