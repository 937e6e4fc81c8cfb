/- Contracts of the reference's Through, Girth and Closed of layer 6, for all graphs. -/
import Derived.Test.YtkgnblnhfjjjmaaGrGirth
import Derived.Test.YtkgnblnhfjjjmaaGrHas
import Derived.Test.YtkgnblnhfjjjmaaRcFrom
import Derived.Test.YtkgnblnhfjjjmaaGsWalk
namespace Go.Proofs.Ytkgnblnhfjjjmaa
open Go Go.RowKit Fl

def girL (g : GraphD) (s : List Bool) : List Int := if chkG g s.length = 0 then girF g s else []
def thrL (g : GraphD) (s : List Bool) (v : Int) : List Int := if fromE g s.length v = 0 then thrF g s v.toNat else []
open Classical in
noncomputable def clsB (g : GraphD) (s : List Bool) (l : List Int) : Bool := decide (chkG g s.length = 0 ∧ ClosedL g s l)
theorem clsB_iff {g : GraphD} {s : List Bool} {l : List Int} : clsB g s l = true ↔ chkG g s.length = 0 ∧ ClosedL g s l := by
  classical
  unfold clsB; exact decide_eq_true_iff
theorem clsB_no {g : GraphD} {s : List Bool} {l : List Int} (h : ¬ (chkG g s.length = 0 ∧ ClosedL g s l)) : clsB g s l = false := by
  rcases e : clsB g s l with _ | _
  · rfl
  · exact absurd (clsB_iff.1 e) h
def WalkPost (w : World) (l : List Int) (k : Int) (e : Ending) (w' : World) : Prop := ∃ u, e = .returned (.tuple #[.int .i64 l.length, u, .int .i64 k]) ∧ w'.ownsRow w.heap.size 3 1 u l.length (l.map Iv) ∧ Below w.heap.size w w'
set_option maxRecDepth 100000 in
set_option maxHeartbeats 4000000 in
theorem refGirth_c (A B : Option Addr) (c d : Nat) (g : GraphD) (s : List Bool) (w : World) (hh : RowsAt w A g) (hs : Holds w B (s.map Bo)) (hl : g.length ≤ 1000000000000000000) (hr : ∀ r ∈ g, r.length ≤ 1000000000000000000) :
    Calls Try.prog 13 #[.slice A g.length c, .slice B s.length d] w (WalkPost w (girL g s) (chkG g s.length)) := by
  have CC := Lib.hid (refCheck_c A B c d s.length g w hh hl hr)
  by_cases h0 : chkG g s.length = 0
  · have hv : validG g = true ∧ s.length = g.length := by
      rcases chkG_cases g s.length with h | h | h
      · exact h.2
      · omega
      · omega
    have h := girth_c A B c d g s w hh hs hv.1 hv.2
    have hE : girL g s = girF g s := by unfold girL; rw [if_pos h0]
    rw [hE, h0]
    exact h
  · have HE : Hid (girL g s = []) := Lib.hid (by unfold girL; rw [if_neg h0])
    have hcase : chkG g s.length = 19 ∨ chkG g s.length = 20 := by
      rcases chkG_cases g s.length with h | h | h
      · exact absurd h.1 h0
      · exact .inl h
      · exact .inr h
    clear hh hs hl hr h0
    rcases hcase with h | h
    all_goals
      rw [h] at CC ⊢
      clear h
      go_enter Try.func13, Try.ntmps13
      go_wp2_with fail
      refine CC.out.mono ?_
      rintro e w1 ⟨rfl, rfl⟩
      go_wp2
      go_ret3
      exact ⟨_, by rw [HE.out]; rfl, by rw [HE.out]; exact World.ownsRow_nil _ _ _ _, Below.refl _ _⟩
set_option maxRecDepth 100000 in
set_option maxHeartbeats 4000000 in
theorem refThrough_c (A B : Option Addr) (c d : Nat) (g : GraphD) (s : List Bool) (v : Int) (w : World) (hh : RowsAt w A g) (hs : Holds w B (s.map Bo)) (hl : g.length ≤ 1000000000000000000) (hr : ∀ r ∈ g, r.length ≤ 1000000000000000000) :
    Calls Try.prog 15 #[.slice A g.length c, .slice B s.length d, .int .i64 v] w (WalkPost w (thrL g s v) (fromE g s.length v)) := by
  have CC := Lib.hid (refCheck_c A B c d s.length g w hh hl hr)
  by_cases h0 : chkG g s.length = 0
  · have hv : validG g = true ∧ s.length = g.length := by
      rcases chkG_cases g s.length with h | h | h
      · exact h.2
      · omega
      · omega
    rw [h0] at CC
    have hl24 := validG_len hv.1
    by_cases hin : 0 ≤ v ∧ v < g.length
    · obtain ⟨vn, rfl⟩ := Int.eq_ofNat_of_zero_le hin.1
      have hvn : vn < g.length := by omega
      have he : fromE g s.length (vn : Int) = 0 := by unfold fromE; rw [if_pos h0, if_pos hin]
      have CT := Lib.hid (through_c A B c d g s vn w hh hs hv.1 hv.2 hvn)
      have HL : Hid (thrL g s (vn : Int) = thrF g s vn) := Lib.hid (by unfold thrL; rw [if_pos he, Int.toNat_natCast])
      have hsh := thrF_short (s := s) hv.1 hvn
      rw [he]
      clear hh hs hr he h0 hv hin
      generalize thrF g s vn = T at *
      go_enter Try.func15, Try.ntmps15
      go_wp2_with fail
      refine CC.out.mono ?_
      rintro e w1 ⟨rfl, rfl⟩
      go_wp2_with fail
      refine CT.out.mono ?_
      rintro e w2 ⟨u, rfl, own2, hb2⟩
      obtain ⟨Au, cu, rfl, _⟩ := own_is own2
      have HO := Lib.hid own2
      have HB := Lib.hid hb2
      clear own2 hb2 CC CT
      go_wp2
      go_ret3
      exact ⟨_, by rw [HL.out]; rfl, by rw [HL.out]; exact HO.out, HB.out⟩
    · have he : fromE g s.length v = 19 := by unfold fromE; rw [if_pos h0, if_neg hin]
      have HL : Hid (thrL g s v = []) := Lib.hid (by unfold thrL; rw [if_neg (by rw [he]; decide)])
      have hcase : decide (v < 0) = true ∨ decide (v < 0) = false ∧ decide ((g.length : Int) ≤ v) = true := by simp only [decide_eq_true_eq, decide_eq_false_iff_not]; omega
      rw [he]
      clear hh hs hr he h0 hv hin
      rcases hcase with h1 | ⟨h1, h2⟩
      all_goals
        go_enter Try.func15, Try.ntmps15
        go_wp2_with fail
        refine CC.out.mono ?_
        rintro e w1 ⟨rfl, rfl⟩
        go_wp2
        go_ret3
        exact ⟨_, by rw [HL.out]; rfl, by rw [HL.out]; exact World.ownsRow_nil _ _ _ _, Below.refl _ _⟩
  · have he : fromE g s.length v = chkG g s.length := by unfold fromE; rw [if_neg h0]
    have HL : Hid (thrL g s v = []) := Lib.hid (by unfold thrL; rw [if_neg (by rw [he]; exact h0)])
    have hcase : chkG g s.length = 19 ∨ chkG g s.length = 20 := by
      rcases chkG_cases g s.length with h | h | h
      · exact absurd h.1 h0
      · exact .inl h
      · exact .inr h
    rw [he]
    clear hh hs hl hr he h0
    rcases hcase with h | h
    all_goals
      rw [h] at CC ⊢
      clear h
      go_enter Try.func15, Try.ntmps15
      go_wp2_with fail
      refine CC.out.mono ?_
      rintro e w1 ⟨rfl, rfl⟩
      go_wp2
      go_ret3
      exact ⟨_, by rw [HL.out]; rfl, by rw [HL.out]; exact World.ownsRow_nil _ _ _ _, Below.refl _ _⟩
/-- The next place of a closed walk. -/
theorem closed_iff {g : GraphD} {s : List Bool} {l : List Int} : ClosedL g s l ↔ l ≠ [] ∧ (∀ j (h : j < l.length), okV g s l[j]) ∧ ∀ j (h : j < l.length), edgeI g l[j] (l[(j + 1) % l.length]'(Nat.mod_lt _ (by omega))) := by
  constructor
  · intro h
    refine ⟨h.walk.ne, fun j hj => h.walk.ok _ (List.getElem_mem hj), fun j hj => ?_⟩
    rcases Nat.lt_or_ge (j + 1) l.length with h1 | h1
    · have e : (j + 1) % l.length = j + 1 := Nat.mod_eq_of_lt h1
      exact h.walk.edge j _ _ (List.getElem?_eq_getElem hj) (by rw [← List.getElem?_eq_getElem, e])
    · have e : (j + 1) % l.length = 0 := by rw [show j + 1 = l.length by omega, Nat.mod_self]
      exact h.back _ _ (by rw [← List.getElem?_eq_getElem, e]) (by rw [show l.length - 1 = j by omega]; exact List.getElem?_eq_getElem hj)
  · rintro ⟨h1, h2, h3⟩
    refine ⟨⟨h1, fun x hx => ?_, fun i x y hx hy => ?_⟩, fun x y hx hy => ?_⟩
    · obtain ⟨j, hj, e⟩ := List.mem_iff_getElem.1 hx
      rw [← e]; exact h2 j hj
    · obtain ⟨a1, a2⟩ := List.getElem?_eq_some_iff.1 hx
      obtain ⟨b1, b2⟩ := List.getElem?_eq_some_iff.1 hy
      have := h3 i a1
      have e : l[(i + 1) % l.length]'(Nat.mod_lt _ (by omega)) = y := by
        rw [← b2]
        congr 1
        exact Nat.mod_eq_of_lt b1
      rw [a2, e] at this
      exact this
    · obtain ⟨a1, a2⟩ := List.getElem?_eq_some_iff.1 hx
      obtain ⟨b1, b2⟩ := List.getElem?_eq_some_iff.1 hy
      have := h3 (l.length - 1) b1
      have e : l[(l.length - 1 + 1) % l.length]'(Nat.mod_lt _ (by omega)) = x := by
        rw [← a2]
        congr 1
        rw [show l.length - 1 + 1 = l.length by omega, Nat.mod_self]
      rw [b2, e] at this
      exact this
end Go.Proofs.Ytkgnblnhfjjjmaa
