/- Robots' cells in the spurs of a network: pure facts. -/
import Derived.Test.YtpdjcccpohnmcaaDoorVxSpec
namespace Go.Proofs.YtpdjcccpohnmcaaDoor
open Go Go.RowKit Fl

/-- A spur holds a robot's cell. -/
def holdsR (s : SpurD) (x : Int) : Prop := s.depot = true ∧ s.base ≤ x ∧ x < s.base + s.slots
/-- The first m spurs hold a robot's cell. -/
def HeldTo (l : List SpurD) (x : Int) (m : Nat) : Prop := ∃ j, ∃ h : j < l.length, j < m ∧ holdsR l[j] x
theorem HeldTo.zero {l : List SpurD} {x : Int} : ¬ HeldTo l x 0 := fun ⟨j, _, h, _⟩ => by omega
theorem HeldTo.succ {l : List SpurD} {x : Int} {m : Nat} (h : m < l.length) : HeldTo l x (m + 1) ↔ HeldTo l x m ∨ holdsR l[m] x := by
  constructor
  · rintro ⟨j, hj, hjk, hd⟩
    rcases Nat.lt_succ_iff_lt_or_eq.1 hjk with h' | rfl
    · exact .inl ⟨j, hj, h', hd⟩
    · exact .inr hd
  · rintro (⟨j, hj, hjk, hd⟩ | hd)
    · exact ⟨j, hj, by omega, hd⟩
    · exact ⟨m, h, by omega, hd⟩
theorem HeldTo.all {l : List SpurD} {x : Int} : HeldTo l x l.length ↔ inDepot l x := by
  constructor
  · rintro ⟨j, h, _, hd⟩; exact ⟨_, List.getElem_mem h, hd⟩
  · rintro ⟨s, hs, hd⟩
    obtain ⟨j, hj, rfl⟩ := List.mem_iff_getElem.1 hs
    exact ⟨j, hj, hj, hd⟩
/-- The first k robots are as they must be. -/
def PreRobs (N : NetD) (k : Nat) : Prop := (∀ i (h : i < N.robots.length), i < k → inDepot N.spurs N.robots[i]) ∧ ∀ i (h : i < N.robots.length), i < k → N.robots[i] ∉ N.robots.take i
theorem PreRobs.zero (N : NetD) : PreRobs N 0 := ⟨fun i h hj => by omega, fun i h hj => by omega⟩
theorem PreRobs.step {N : NetD} {k : Nat} (h : PreRobs N k) (hk : k < N.robots.length) (h1 : inDepot N.spurs N.robots[k]) (h2 : N.robots[k] ∉ N.robots.take k) : PreRobs N (k + 1) := by
  refine ⟨fun i hi hik => ?_, fun i hi hik => ?_⟩
  · rcases Nat.lt_succ_iff_lt_or_eq.1 hik with h' | rfl
    · exact h.1 i hi h'
    · exact h1
  · rcases Nat.lt_succ_iff_lt_or_eq.1 hik with h' | rfl
    · exact h.2 i hi h'
    · exact h2
theorem PreRobs.all {N : NetD} (h : PreRobs N N.robots.length) (h8 : N.robots.length ≤ 8) : RobOk N := by
  refine ⟨h8, fun x hx => ?_, ?_⟩
  · obtain ⟨i, hi, rfl⟩ := List.mem_iff_getElem.1 hx
    exact h.1 i hi hi
  · refine List.pairwise_iff_getElem.2 (fun i j hi hj hij e => h.2 j hj hj ?_)
    rw [← e]
    exact List.mem_iff_getElem.2 ⟨i, by rw [List.length_take]; omega, by rw [List.getElem_take]⟩
theorem RobOk.at_ {N : NetD} (h : RobOk N) {k : Nat} (hk : k < N.robots.length) : inDepot N.spurs N.robots[k] ∧ N.robots[k] ∉ N.robots.take k := by
  refine ⟨h.homes _ (List.getElem_mem hk), fun hm => ?_⟩
  obtain ⟨j, hj, e⟩ := List.mem_iff_getElem.1 hm
  rw [List.getElem_take] at e
  have hjk : j < k := by rw [List.length_take] at hj; omega
  exact List.pairwise_iff_getElem.1 h.once j k (by omega) hk hjk e
end Go.Proofs.YtpdjcccpohnmcaaDoor
