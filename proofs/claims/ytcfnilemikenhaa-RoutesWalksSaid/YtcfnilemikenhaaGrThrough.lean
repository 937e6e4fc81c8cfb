/- Contracts of the reference's through and Girth of layer 6: a shortest closed walk through a vertex; one of the whole graph. -/
import Derived.Test.YtcfnilemikenhaaGrFirst
import Derived.Test.YtcfnilemikenhaaGrValid
namespace Go.Proofs.Ytcfnilemikenhaa
open Go Go.RowKit Fl

theorem bestK_succ {row dist : List Int} {k : Nat} (h : k < row.length) : bestK row dist (k + 1) = if 0 ≤ atI dist row[k] ∧ (bestK row dist k < 0 ∨ atI dist row[k] < atI dist (bestK row dist k)) then row[k] else bestK row dist k := by
  have e : row.getD k 0 = row[k] := by rw [List.getD_eq_getElem?_getD, List.getElem?_eq_getElem h]; rfl
  rw [bestK]
  simp only [e]
theorem atI_nat {l : List Int} {y : Nat} (h : y < l.length) : atI l (y : Int) = l[y] := by unfold atI; rw [Int.toNat_natCast, List.getD_eq_getElem?_getD, List.getElem?_eq_getElem h]; rfl
theorem Holds.news {w : World} {b o : Nat} {xs : List Value} (h : Holds w (some ⟨b, o, none⟩) xs) {m : Nat} : ∀ j u, (xs.take m)[j]? = some u → w.cell? ((⟨b, o, none⟩ : Addr).add j) = some u := fun j u hu => by
  have hadd : (⟨b, o, none⟩ : Addr).add j = ⟨b, o + j, none⟩ := by unfold Addr.add; split <;> simp_all
  rw [List.getElem?_take] at hu
  split at hu
  · obtain ⟨hj, hu⟩ := List.getElem?_eq_some_iff.1 hu
    obtain ⟨b', o', hA, _, hc⟩ := h.at_ (by omega)
    injection hA with hA
    injection hA with h1 h2
    subst h1 h2
    rw [hadd, hc j hj, hu]
  · cases hu
end Go.Proofs.Ytcfnilemikenhaa
