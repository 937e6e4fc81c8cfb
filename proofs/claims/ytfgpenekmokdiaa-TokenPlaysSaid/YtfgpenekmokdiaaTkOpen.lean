/- An argument of type []int opened for the walks, with its bounds. -/
import Derived.Test.YtfgpenekmokdiaaMzAV
namespace Go.Proofs.Ytfgpenekmokdiaa
open Go.ChangeShapes Go.WideShapes Go.ChangeAt Go.RowKit Go.Deep Fl

set_option maxRecDepth 100000 in
theorem open_intsC {H : Type} {enc : TypeId × Value → H} {W : World} {v : Value} {d : DataW H} {p : List MemPlace} {base : Nat}
    (hok : Value.okWide Try.prog W .any base 23 v) (h : DataW.Trod enc Try.prog W 0 (fun _ => true) true 23 v d p) (hw : ∀ n ∈ d.weights Try.prog 23, n ≤ reachBytes) :
    ∃ (A : Option Addr) (c : Nat) (zs : List Int), v = .slice A zs.length c ∧ Holds W A (zs.map Iv) ∧ zs.length ≤ c ∧ zs.length ≤ 1000000000000000000 := by
  obtain ⟨a0, len, cap, rfl⟩ := okWide_slice Try.underlying23 hok
  obtain ⟨fuel, hf⟩ := h
  rcases open_ints Try.underlying23 Try.underlying3 cellsInt hf with ⟨hcs, hx⟩ | ⟨a, len', cap', zs, hcs, _, hl, hm, hz, hx, hcell, hwz⟩
  · simp [Value.cells] at hcs
    obtain ⟨rfl, rfl, rfl⟩ := hcs
    exact ⟨none, 0, [], rfl, .inl rfl, by simp, by simp⟩
  · simp [Value.cells] at hcs
    obtain ⟨rfl, rfl, rfl⟩ := hcs
    simp only [if_true] at hz
    have hd := congrArg Prod.fst hx
    have hb : Try.prog.bytesOf 3 = 8 := by kernel_rfl
    have h1 := hw (((zs.take len).length + (zs.drop len).length) * 8) (by
      simp only at hd
      rw [hd]; simp [lits, DataW.weights, Try.underlying23, hb])
    unfold reachBytes at h1
    have hlen : (zs.take len).length = len := by simp; omega
    refine ⟨some a, cap, zs.take len, by rw [hlen], holds_cells fun j hj => ?_, by omega, by omega⟩
    have hj' : j < len := by rwa [List.length_map, hlen] at hj
    rw [hcell j (by omega), List.getD_eq_getElem?_getD, List.getElem?_eq_getElem (show j < zs.length by omega)]
    simp
end Go.Proofs.Ytfgpenekmokdiaa
