/- What Path returns: a shortest way that follows the hops. No program is named here. -/
import Derived.Test.YtcfnilemikenhaaGsWalk
namespace Go.Proofs.Ytcfnilemikenhaa.Fl

/-- Each one's hop is the next one. -/
theorem pathF_hop {h : List Int} : ∀ (f : Nat) (v : Int) (k : Nat) (x y : Int), (pathF h f v)[k]? = some x → (pathF h f v)[k + 1]? = some y → atI h x = y
  | 0, v, k, x, y, _, hy => by simp [pathF] at hy
  | f + 1, v, 0, x, y, hx, hy => by
    simp only [pathF, List.getElem?_cons_zero, Option.some.injEq] at hx
    subst hx
    simp only [pathF, List.getElem?_cons_succ] at hy
    cases f with
    | zero => simpa [pathF] using hy
    | succ f => simpa [pathF] using hy
  | f + 1, v, k + 1, x, y, hx, hy => by
    simp only [pathF, List.getElem?_cons_succ] at hx hy
    exact pathF_hop f (atI h v) k x y hx hy
theorem reach_dist {g : GraphD} {s : List Bool} {a goal : Nat} (hg : validG g = true) (ha : a < g.length) (hgo : goal < g.length) : atB (reachL g s a) goal = true ↔ 0 ≤ dAt (distF g s goal) a := by
  rw [reachL_at hgo]
  constructor
  · intro h
    obtain ⟨k, hk⟩ := rn_of_path h
    exact (dist_le hg hk).1
  · intro h
    obtain ⟨k, hk⟩ := Int.eq_ofNat_of_zero_le h
    exact (dist_is hg hgo ha hk).path
/-- What is known of a path that is not empty. -/
structure PathOk (g : GraphD) (s : List Bool) (a goal : Nat) (p : List Int) : Prop where
  pos : 0 < p.length
  first : p[0]? = some (a : Int)
  last : p[p.length - 1]? = some (goal : Int)
  dist : dAt (distF g s goal) a = ((p.length - 1 : Nat) : Int)
  ok : ∀ (k : Nat) (x : Int), p[k]? = some x → okV g s x
  next : ∀ (k : Nat) (x y : Int), p[k]? = some x → p[k + 1]? = some y → atI (hopsL g (distF g s goal)) x = y ∧ y ∈ rowG g x.toNat
theorem first_cases {g : GraphD} {s : List Bool} {a goal : Nat} (hg : validG g = true) (ha : a < g.length) (hgo : goal < g.length) : (firstF g s a goal = [] ∧ dAt (distF g s goal) a < 0) ∨ PathOk g s a goal (firstF g s a goal) := by
  by_cases hd : dAt (distF g s goal) a < 0
  · left
    refine ⟨?_, hd⟩
    unfold firstF
    exact if_pos hd
  · right
    obtain ⟨f, hf⟩ := Int.eq_ofNat_of_zero_le (show 0 ≤ dAt (distF g s goal) a by omega)
    have e : firstF g s a goal = pathF (hopsL g (distF g s goal)) f a := by
      unfold firstF
      rw [show (distF g s goal).getD a (-1) = (f : Int) from hf, if_neg (by omega)]
      rfl
    obtain ⟨w1, w2, w3⟩ := pathF_walk (s := s) hg hgo f a ha hf
    rw [e]
    have hl := pathF_length (hopsL g (distF g s goal)) f (a : Int)
    refine ⟨by omega, w2, by rw [hl]; exact w3, by rw [hl, hf]; rfl, fun k x hx => w1.ok x (get_mem hx), fun k x y hx hy => ⟨pathF_hop f _ k x y hx hy, w1.edge k x y hx hy⟩⟩
theorem first_reach {g : GraphD} {s : List Bool} {a goal : Nat} (hg : validG g = true) (ha : a < g.length) (hgo : goal < g.length) : atB (reachL g s a) goal = true ↔ 0 < (firstF g s a goal).length := by
  rw [reach_dist hg ha hgo]
  rcases first_cases (s := s) hg ha hgo with ⟨h1, h2⟩ | h
  · rw [h1]
    constructor
    · intro h3; omega
    · intro h3; simp at h3
  · constructor
    · intro _; exact h.pos
    · intro _; rw [h.dist]; omega
end Go.Proofs.Ytcfnilemikenhaa.Fl
