/- What the laws of layer 5 need of names, order and quotient; the chapter's example. No program is named here. -/
import Derived.Test.YtcfnilemikenhaaCpSpec
import Derived.Test.YtcfnilemikenhaaRcFrom
namespace Go.Proofs.Ytcfnilemikenhaa
open Go Go.RowKit Fl

theorem order_one {g : GraphD} {s : List Bool} : mutP g s ↔ (orderL g s).length = 1 := by
  have hok := order_ok g s
  constructor
  · rintro ⟨⟨a, ha, hs⟩, hall⟩
    obtain ⟨w, hw, _, _, _⟩ := name_open ha hs
    obtain ⟨h1, h2, _, h3⟩ := name_name hw
    have hin := order_all h2 h1
    have key : ∀ z ∈ orderL g s, z = (w : Int) := fun z hz => by
      obtain ⟨v, rfl, hv, hn⟩ := hok.name z hz
      have hvo := (name_name hn).2.2.1
      have := name_eq (⟨hall a v ha hv hs hvo, hall v a hv ha hvo hs⟩ : both g s a v)
      rw [hw, hn] at this
      omega
    rcases e : orderL g s with _ | ⟨x, _ | ⟨y, l⟩⟩
    · rw [e] at hin; simp at hin
    · rfl
    · have hx := key x (by rw [e]; simp)
      have hy := key y (by rw [e]; simp)
      have hnd := hok.nodup
      rw [e, hx, hy] at hnd
      simp at hnd
  · intro h
    rcases e : orderL g s with _ | ⟨x, _ | ⟨y, l⟩⟩
    · rw [e] at h; simp at h
    · obtain ⟨w, rfl, hw, hn⟩ := hok.name x (by rw [e]; simp)
      have key : ∀ v, v < g.length → atB s v = false → nameOf g s v = w := fun v hv hs => by
        obtain ⟨a, ha, _⟩ := name_open hv hs
        obtain ⟨h1, h2, _⟩ := name_name ha
        have := order_all h2 h1
        rw [e] at this
        simp at this
        rw [ha, this]
      refine ⟨⟨w, hw, (name_name hn).2.2.1⟩, fun u v hu hv hus hvs => ?_⟩
      exact (name_both (by rw [key u hu hus, key v hv hvs]) (by rw [key u hu hus]; omega)).1
    · rw [e] at h; simp at h
theorem name_is {g : GraphD} {s : List Bool} {v w : Nat} (h : both g s v w) (hl : ∀ u, u < w → ¬ both g s v u) : nameOf g s v = w := by
  obtain ⟨a, ha, _, h1, h2⟩ := name_open h.1.left.1 h.1.left.2
  have h3 : ¬ a < w := fun hlt => hl a hlt h1
  have h4 : ¬ w < a := fun hlt => h2 w hlt h
  rw [ha]; omega
theorem leastF_no {p : Nat → Bool} {n : Nat} (h : ∀ j, j < n → p j = false) : leastF p n = none := by
  rcases e : leastF p n with _ | k
  · rfl
  · obtain ⟨h1, h2, _⟩ := leastF_some e
    rw [h k h2] at h1; cases h1
abbrev eG : GraphD := [[1], [0, 2], []]
abbrev eS : List Bool := [false, false, false]
theorem eG_valid : validG eG = true := by decide
theorem eE {u v : Nat} (h : EdgeG eG u v) : (u = 0 ∧ v = 1) ∨ (u = 1 ∧ v = 0) ∨ (u = 1 ∧ v = 2) := by
  have hr := h.range eG_valid
  have h1 : u < 3 := hr.1
  have h2 : v < 3 := hr.2.1
  unfold EdgeG rowG at h
  match u, v, h1, h2 with
  | 0, 0, _, _ => simp at h
  | 0, 1, _, _ => simp
  | 0, 2, _, _ => simp at h
  | 1, 0, _, _ => simp
  | 1, 1, _, _ => simp at h
  | 1, 2, _, _ => simp
  | 2, 0, _, _ => simp at h
  | 2, 1, _, _ => simp at h
  | 2, 2, _, _ => simp at h
  | (n + 3), _, h, _ => omega
  | _, (n + 3), _, h => omega
theorem eOpen (v : Nat) : atB eS v = false := by
  match v with
  | 0 => rfl
  | 1 => rfl
  | 2 => rfl
  | (n + 3) => rfl
theorem eStep {u v : Nat} (hu : u < 3) (hv : v < 3) (e : EdgeG eG u v) : PathG eG eS u v := .head hu (eOpen u) e (.refl hv (eOpen v))
theorem eNo {u : Nat} (h : PathG eG eS 2 u) : u = 2 := PathG.closed (P := fun v => v = 2) rfl (fun a b ha e _ _ => by
  rcases eE e with ⟨rfl, _⟩ | ⟨rfl, _⟩ | ⟨rfl, _⟩ <;> cases ha) h
theorem eN0 : nameOf eG eS 0 = (0 : Nat) := name_is (both.self (by decide) rfl) fun u hu => by omega
theorem eN1 : nameOf eG eS 1 = (0 : Nat) := name_is ⟨eStep (by decide) (by decide) (by unfold EdgeG rowG; simp), eStep (by decide) (by decide) (by unfold EdgeG rowG; simp)⟩ fun u hu => by omega
theorem eN2 : nameOf eG eS 2 = (2 : Nat) := name_is (both.self (by decide) rfl) fun u hu h => by have := eNo h.1; omega
theorem e_names : namesL eG eS = [0, 0, 2] := by
  show [nameOf eG eS 0, nameOf eG eS 1, nameOf eG eS 2] = _
  rw [eN0, eN1, eN2]; rfl
theorem e_b1 : best eG eS [] = some 0 := leastF_is (by decide) (cand_iff.2 ⟨eN0, by simp, fun w hw hn hne _ hp => by
  have h3 : w < 3 := hw
  match w, h3 with
  | 0, _ => exact hne rfl
  | 1, _ => rw [eN1] at hn; cases hn
  | 2, _ => have := eNo hp; omega⟩) fun j hj => by omega
theorem e_b2 : best eG eS [0] = some 2 := leastF_is (by decide) (cand_iff.2 ⟨eN2, by simp, fun w hw hn hne hno _ => by
  have h3 : w < 3 := hw
  match w, h3 with
  | 0, _ => exact hno (by simp)
  | 1, _ => rw [eN1] at hn; cases hn
  | 2, _ => exact hne rfl⟩) fun j hj => by
    rcases e : cand eG eS [0] j with _ | _
    · rfl
    · obtain ⟨h1, h2, _⟩ := cand_iff.1 e
      match j, hj with
      | 0, _ => exact absurd (by simp) h2
      | 1, _ => rw [eN1] at h1; cases h1
theorem e_b3 : best eG eS [0, 2] = none := leastF_no fun j hj => by
  have h3 : j < 3 := hj
  rcases e : cand eG eS [0, 2] j with _ | _
  · rfl
  · obtain ⟨h1, h2, _⟩ := cand_iff.1 e
    match j, h3 with
    | 0, _ => exact absurd (by simp) h2
    | 1, _ => rw [eN1] at h1; cases h1
    | 2, _ => exact absurd (by simp) h2
theorem e_order : orderL eG eS = [0, 2] := (((orderL_runs eG eS).some e_b1).some e_b2 |>.none e_b3).symm
theorem e_quot : quotL eG eS = [[2], [], []] := by
  have h0 : quotRow eG eS 0 = [2] := sorted_ext (quotRow_sorted _ _ _) (by simp) fun z => by
    rw [quotRow_mem]
    constructor
    · rintro ⟨u, x, he, hu, hx, h1, h2⟩
      rcases eE he with ⟨rfl, rfl⟩ | ⟨rfl, rfl⟩ | ⟨rfl, rfl⟩
      · rw [eN1] at hx; omega
      · rw [eN0] at hx; omega
      · rw [eN2] at hx; simp; omega
    · intro h
      have hz : z = 2 := by simpa using h
      subst hz
      exact ⟨1, 2, by unfold EdgeG rowG; simp, eN1, eN2, by decide, by decide⟩
  have h1 : quotRow eG eS 1 = [] := List.eq_nil_iff_forall_not_mem.2 fun z hz => by
    obtain ⟨u, x, he, hu, _⟩ := quotRow_mem.1 hz
    rcases eE he with ⟨rfl, rfl⟩ | ⟨rfl, rfl⟩ | ⟨rfl, rfl⟩
    · rw [eN0] at hu; omega
    · rw [eN1] at hu; omega
    · rw [eN1] at hu; omega
  have h2 : quotRow eG eS 2 = [] := List.eq_nil_iff_forall_not_mem.2 fun z hz => by
    obtain ⟨u, x, he, hu, _⟩ := quotRow_mem.1 hz
    rcases eE he with ⟨rfl, rfl⟩ | ⟨rfl, rfl⟩ | ⟨rfl, rfl⟩
    · rw [eN0] at hu; omega
    · rw [eN1] at hu; omega
    · rw [eN1] at hu; omega
  show [quotRow eG eS 0, quotRow eG eS 1, quotRow eG eS 2] = _
  rw [h0, h1, h2]
end Go.Proofs.Ytcfnilemikenhaa
