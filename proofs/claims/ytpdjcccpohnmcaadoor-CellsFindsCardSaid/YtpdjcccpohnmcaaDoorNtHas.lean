/- Has of layer 3 on a part of a list. -/
import Derived.Test.YtpdjcccpohnmcaaDoorVxRobs
import Derived.Test.YtpdjcccpohnmcaaDoorGrHas
namespace Go.Proofs.YtpdjcccpohnmcaaDoor
open Go Go.RowKit Fl

theorem has_q (A : Option Addr) (c i : Nat) (l : List Int) (x : Int) (w : World) (hh : Holds w A (l.map Iv)) (hl : l.length ≤ 1000000000000000000) (hi : i ≤ l.length) :
    Calls Tryd.prog 26 #[.slice A i c, .int .i64 x] w fun e w' => e = .returned (.bool (decide (x ∈ l.take i))) ∧ w' = w := by
  have e : (l.take i).length = i := by rw [List.length_take]; omega
  have h2 : Holds w A ((l.take i).map Iv) := by
    rcases hh with h | ⟨b, o, hA, hb, hc⟩
    · left; have : l = [] := by simpa using h
      subst this; simp
    · right
      refine ⟨b, o, hA, hb, fun j hj => ?_⟩
      rw [hc j (by simp at hj ⊢; omega)]
      simp
  have h3 := has_c A c (l.take i) x w h2 (by omega)
  rw [e] at h3
  exact h3.mono fun e w' ⟨h1, h2⟩ => ⟨h1, h2.symm⟩
end Go.Proofs.YtpdjcccpohnmcaaDoor
