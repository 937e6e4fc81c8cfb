/- What the laws of layer 6 need of closed walks. No program is named here. -/
import Derived.Test.YtkgnblnhfjjjmaaGsWalk
import Derived.Test.YtkgnblnhfjjjmaaCpSpec
import Derived.Test.YtkgnblnhfjjjmaaGrMade
namespace Go.Proofs.Ytkgnblnhfjjjmaa
open Go Go.RowKit Fl

/-- The first edge of a closed walk, and the way back. -/
theorem closed_two {g : GraphD} {s : List Bool} {l : List Int} (hg : validG g = true) (h : ClosedL g s l) : ∃ v y : Nat, l[0]? = some (v : Int) ∧ EdgeG g v y ∧ both g s v y := by
  have hl : 0 < l.length := List.length_pos_iff.2 h.walk.ne
  have h0 : l[0]? = some l[0] := List.getElem?_eq_getElem hl
  have ho := h.walk.ok _ (get_mem h0)
  obtain ⟨v, hv⟩ := Int.eq_ofNat_of_zero_le ho.1
  have hz : l[l.length - 1]? = some l[l.length - 1] := List.getElem?_eq_getElem (by omega)
  have hback := h.back _ _ h0 hz
  have hlo := h.walk.ok _ (get_mem hz)
  have hvl : v < g.length := by have := ho.2.1; omega
  have hvs : atB s v = false := by have := ho.2.2; rwa [hv, Int.toNat_natCast] at this
  by_cases h1 : l.length = 1
  · exfalso
    have e : l[l.length - 1] = l[0] := by
      have : l[l.length - 1]? = l[0]? := by rw [h1]
      rw [hz, h0] at this
      injection this
    rw [e] at hback
    have he := edgeI_nat hback ho
    exact (he.range hg).2.2 rfl
  · have hy : l[1]? = some l[1] := List.getElem?_eq_getElem (by omega)
    have hedge := h.walk.edge 0 _ _ h0 hy
    have hyo := h.walk.ok _ (get_mem hy)
    have hr := h.walk.rn (l.length - 2) 1 _ _ hy (by rw [← hz]; congr 1; omega)
    have hr2 := hr.snoc (edgeI_nat hback ho) (by rw [hv, Int.toNat_natCast]; exact hvl) (by rw [hv, Int.toNat_natCast]; exact hvs)
    have he := edgeI_nat hedge hyo
    rw [hv, Int.toNat_natCast] at hr2 he
    have hyr := hr2.left
    exact ⟨v, l[1].toNat, by rw [h0, hv], he, .step (.refl hvl hvs) he hyr.1 hyr.2, hr2.path⟩
/-- A vertex with an edge to one that reaches it is on a closed walk. -/
theorem gir_ne {g : GraphD} {s : List Bool} {v y : Nat} (hg : validG g = true) (hv : v < g.length) (hs : atB s v = false) (he : EdgeG g v y) (hp : PathG g s y v) : girF g s ≠ [] := by
  obtain ⟨k, hk⟩ := rn_of_path hp
  have hd := dist_le hg hk
  obtain ⟨j, hj, e⟩ := List.mem_iff_getElem.1 (show (y : Int) ∈ rowG g v from he)
  have hgd : (rowG g v).getD j 0 = (y : Int) := by rw [List.getD_eq_getElem?_getD, List.getElem?_eq_getElem hj, e]; rfl
  have hat : atI (distF g s v) ((rowG g v).getD j 0) = dAt (distF g s v) y := by rw [hgd]; unfold atI; rw [Int.toNat_natCast]
  obtain ⟨b1, _⟩ := bestK_least (dist := distF g s v) hg hv _ j (Nat.le_refl _) hj (by rw [hat]; exact hd.1)
  have hne : thrF g s v ≠ [] := by
    unfold thrF
    rw [hs]
    simp only [Bool.false_eq_true, if_false]
    rw [if_neg (by omega)]
    simp
  exact (girK_least g.length v hv hne).1
theorem gir_none {g : GraphD} {s : List Bool} (hg : validG g = true) : girF g s = [] ↔ ∀ v : Nat, v < g.length → nameOf g s v < 0 ∨ nameOf g s v = v := by
  constructor
  · intro h v hv
    rcases name_cases g s v with ⟨h1, _⟩ | ⟨w, h1, _, h2, _⟩
    · exact .inl (by omega)
    · right
      by_cases hvw : w = v
      · rw [h1, hvw]
      · exfalso
        obtain ⟨k, hk⟩ := rn_of_path h2.1
        cases hk with
        | zero _ _ => exact hvw rfl
        | succ a1 a2 a3 a4 => exact gir_ne hg hv a2 a3 (a4.path.trans h2.2) h
  · intro h
    apply Classical.byContradiction
    intro hne
    obtain ⟨v, y, _, he, hb⟩ := closed_two hg (gir_closed hg hne)
    have h1 := hb.1.left
    have h2 := hb.1.right
    obtain ⟨a, ha, _⟩ := name_open h1.1 h1.2
    obtain ⟨b, hb2, _⟩ := name_open h2.1 h2.2
    have e := name_eq hb
    rcases h v h1.1 with h3 | h3
    · omega
    · rcases h y h2.1 with h4 | h4
      · omega
      · have := (he.range hg).2.2
        omega
theorem closed_mono {g : GraphD} {s m : List Bool} (hm : ∀ u, atB s u = true → atB m u = true) {l : List Int} (h : ClosedL g m l) : ClosedL g s l := by
  refine ⟨⟨h.walk.ne, fun x hx => ?_, h.walk.edge⟩, h.back⟩
  obtain ⟨h1, h2, h3⟩ := h.walk.ok x hx
  refine ⟨h1, h2, ?_⟩
  rcases e : atB s x.toNat with _ | _
  · rfl
  · rw [hm _ e] at h3; cases h3
theorem closed_more {g h : GraphD} {s : List Bool} (hl : h.length = g.length) (he : ∀ (u : Nat) (z : Int), z ∈ rowG g u → z ∈ rowG h u) {l : List Int} (hc : ClosedL g s l) : ClosedL h s l := by
  refine ⟨⟨hc.walk.ne, fun x hx => ?_, fun i x y hx hy => he _ _ (hc.walk.edge i x y hx hy)⟩, fun x y hx hy => he _ _ (hc.back x y hx hy)⟩
  obtain ⟨h1, h2, h3⟩ := hc.walk.ok x hx
  exact ⟨h1, by rw [hl]; exact h2, h3⟩
theorem girK_upto {g : GraphD} {s : List Bool} (k : Nat) : girK g s (k + 1) = if 0 < (thrF g s k).length ∧ ((girK g s k).length = 0 ∨ (thrF g s k).length < (girK g s k).length) then thrF g s k else girK g s k := rfl
end Go.Proofs.Ytkgnblnhfjjjmaa
