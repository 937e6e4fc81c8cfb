/- reach's Valid, Reverse and Without keep what RhDev asks. -/
import Derived.Test.YtkgnblnhfjjjmaaRdRev
import Derived.Test.YtkgnblnhfjjjmaaRdWo
import Derived.Test.YtkgnblnhfjjjmaaMjA
namespace Go.Proofs.Ytkgnblnhfjjjmaa
open Go Go.RowKit Fl

theorem WoPost.graph {w w' : World} {l : GraphD} {k : Int} {e : Ending} (h : WoPost w l k e w') : GraphRes w l k e w' := by
  obtain ⟨u, rfl, ho, hb⟩ := h
  obtain ⟨A, c, rfl, hr⟩ := ho.at_
  exact ⟨A, c, rfl, hr, hb⟩
theorem devValid_k : DevValid := fun A c g w hh hz => (devValid_c A c g w hh hz.1 hz.2).mono fun _ _ ⟨h, e⟩ => ⟨h, e ▸ Below.refl _ _⟩
theorem devReverse_k : DevReverse := fun A c g w hh hz => (devReverse_c A c g w hh hz.1 hz.2).mono fun _ _ h => h.graph
theorem devWithout_k : DevWithout := fun A B c d g s w hh hs hz => (devWithout_c A B c d g s w hh hs hz.1 hz.2).mono fun _ _ h => h.graph
end Go.Proofs.Ytkgnblnhfjjjmaa
