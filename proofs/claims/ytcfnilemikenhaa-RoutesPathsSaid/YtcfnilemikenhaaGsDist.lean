/- Distances are lengths of shortest walks. No program is named here. -/
import Derived.Test.YtcfnilemikenhaaRcSpec
namespace Go.Proofs.Ytcfnilemikenhaa.Fl

/-- A walk of k edges between open vertices. -/
inductive Rn (g : GraphD) (s : List Bool) : Nat → Nat → Nat → Prop
  | zero {v : Nat} : v < g.length → atB s v = false → Rn g s 0 v v
  | succ {k u y v : Nat} : u < g.length → atB s u = false → EdgeG g u y → Rn g s k y v → Rn g s (k + 1) u v
theorem Rn.left {g : GraphD} {s : List Bool} {k u v : Nat} (h : Rn g s k u v) : u < g.length ∧ atB s u = false := by cases h <;> exact ⟨by assumption, by assumption⟩
theorem Rn.right {g : GraphD} {s : List Bool} {k u v : Nat} (h : Rn g s k u v) : v < g.length ∧ atB s v = false := by
  induction h with
  | zero h1 h2 => exact ⟨h1, h2⟩
  | succ _ _ _ _ ih => exact ih
theorem Rn.path {g : GraphD} {s : List Bool} {k u v : Nat} (h : Rn g s k u v) : PathG g s u v := by
  induction h with
  | zero h1 h2 => exact .refl h1 h2
  | succ h1 h2 h3 _ ih => exact .head h1 h2 h3 ih
theorem Rn.snoc {g : GraphD} {s : List Bool} {k u v y : Nat} (h : Rn g s k u v) (he : EdgeG g v y) (hy : y < g.length) (hs : atB s y = false) : Rn g s (k + 1) u y := by
  induction h with
  | zero h1 h2 => exact .succ h1 h2 he (.zero hy hs)
  | succ h1 h2 h3 _ ih => exact .succ h1 h2 h3 (ih he)
theorem rn_of_path {g : GraphD} {s : List Bool} {u v : Nat} (h : PathG g s u v) : ∃ k, Rn g s k u v := by
  induction h with
  | refl h1 h2 => exact ⟨0, .zero h1 h2⟩
  | step _ he hl hs ih =>
    obtain ⟨k, hk⟩ := ih
    exact ⟨k + 1, hk.snoc he hl hs⟩
abbrev dAt (out : List Int) (v : Nat) : Int := out.getD v (-1)
theorem dAt_set {out : List Int} {v u : Nat} {d : Int} (hv : v < out.length) : dAt (out.set v d) u = if u = v then d else dAt out u := by
  unfold dAt
  rw [List.getD_eq_getElem?_getD, List.getElem?_set, List.getD_eq_getElem?_getD]
  by_cases e : u = v
  · subst e; simp [hv]
  · rw [if_neg (fun h => e h.symm), if_neg e]
/-- What is marked stays as it is. -/
theorem distV_keep {g : GraphD} {s : List Bool} {d : Int} {out : List Int} {v u : Nat} (h : 0 ≤ dAt out u) : dAt (distV g s d out v) u = dAt out u := by
  unfold distV
  split
  · rfl
  · rename_i h1
    split
    · by_cases hv : v < out.length
      · rw [dAt_set hv]
        split
        · rename_i e
          subst e
          exfalso
          apply h1
          simp only [Bool.or_eq_true, decide_eq_true_eq]
          exact .inr h
        · rfl
      · rw [List.set_eq_of_length_le (by omega)]
    · rfl
theorem distR_keep {g : GraphD} {s : List Bool} {d : Int} {out : List Int} {u : Nat} (h : 0 ≤ dAt out u) : ∀ k, dAt (distR g s d out k) u = dAt out u
  | 0 => rfl
  | k + 1 => by rw [distR_succ, distV_keep (by rw [distR_keep h k]; exact h), distR_keep h k]
theorem distR_later {g : GraphD} {s : List Bool} {d : Int} {out : List Int} {u j : Nat} : ∀ k, j ≤ k → 0 ≤ dAt (distR g s d out j) u → 0 ≤ dAt (distR g s d out k) u
  | 0, hj, h => by
    have : j = 0 := by omega
    subst this
    exact h
  | k + 1, hj, h => by
    rcases Nat.eq_or_lt_of_le hj with rfl | hj
    · exact h
    · have := distR_later (g := g) (s := s) (d := d) (out := out) (u := u) k (by omega) h
      rw [distR_succ, distV_keep this]
      exact this
theorem distK_later {g : GraphD} {s : List Bool} {out : List Int} {u j : Nat} : ∀ k, j ≤ k → 0 ≤ dAt (distK g s out j) u → dAt (distK g s out k) u = dAt (distK g s out j) u
  | 0, hj, h => by
    have : j = 0 := by omega
    subst this
    rfl
  | k + 1, hj, h => by
    rcases Nat.eq_or_lt_of_le hj with rfl | hj
    · rfl
    · have := distK_later (g := g) (s := s) (out := out) (u := u) k (by omega) h
      rw [distK_succ, distR_keep (by rw [this]; exact h), this]
/-- Only open vertices are marked. -/
theorem distV_open {g : GraphD} {s : List Bool} {d : Int} {out : List Int} {v : Nat} (h : ∀ u, 0 ≤ dAt out u → atB s u = false) : ∀ u, 0 ≤ dAt (distV g s d out v) u → atB s u = false := by
  intro u hu
  by_cases h0 : 0 ≤ dAt out u
  · exact h u h0
  · unfold distV at hu
    split at hu
    · exact absurd hu h0
    · rename_i h1
      split at hu
      · by_cases hv : v < out.length
        · rw [dAt_set hv] at hu
          split at hu
          · rename_i e
            subst e
            simp only [Bool.or_eq_true, not_or] at h1
            simpa using h1.1
          · exact absurd hu h0
        · rw [List.set_eq_of_length_le (by omega)] at hu; exact absurd hu h0
      · exact absurd hu h0
theorem distR_open {g : GraphD} {s : List Bool} {d : Int} {out : List Int} (h : ∀ u, 0 ≤ dAt out u → atB s u = false) : ∀ k u, 0 ≤ dAt (distR g s d out k) u → atB s u = false
  | 0 => h
  | k + 1 => by rw [distR_succ]; exact distV_open (distR_open h k)
theorem distK_open {g : GraphD} {s : List Bool} {out : List Int} (h : ∀ u, 0 ≤ dAt out u → atB s u = false) : ∀ k u, 0 ≤ dAt (distK g s out k) u → atB s u = false
  | 0 => h
  | k + 1 => by rw [distK_succ]; exact distR_open (distK_open h k) _
/-- A mark is the length of a walk. -/
theorem dist_walk {g : GraphD} {s : List Bool} {goal : Nat} {d : Int} {out : List Int} (h : DistInv g goal d out) (ho : ∀ u, 0 ≤ dAt out u → atB s u = false) : ∀ (k u : Nat), u < g.length → dAt out u = k → Rn g s k u goal
  | 0, u, hu, e => by
    have := (h.goal u hu).1 e
    subst this
    exact .zero hu (ho u (by omega))
  | k + 1, u, hu, e => by
    obtain ⟨x, hx, x0, x1, x2⟩ := h.step u hu (by show 0 < dAt out u; omega)
    obtain ⟨y, rfl⟩ := Int.eq_ofNat_of_zero_le x0
    have e2 : dAt out y = k := by
      unfold atI at x2
      rw [Int.toNat_natCast] at x2
      show out.getD y (-1) = _
      rw [x2]
      show dAt out u - 1 = _
      omega
    exact .succ hu (ho u (by omega)) hx (dist_walk h ho k y (by omega) e2)
/-- A vertex with a neighbour at d - 1 is marked in round d. -/
theorem distV_set {g : GraphD} {s : List Bool} {d : Int} {out : List Int} {v : Nat} (hl : v < out.length) (hs : atB s v = false) {y : Nat} (he : EdgeG g v y) (hy : dAt out y = d - 1) (hd : 1 ≤ d) : 0 ≤ dAt (distV g s d out v) v := by
  by_cases h0 : 0 ≤ dAt out v
  · rw [distV_keep h0]; exact h0
  · unfold distV
    rw [hs, decide_eq_false h0]
    simp only [Bool.or_false, Bool.false_eq_true, if_false]
    rw [if_pos (List.any_eq_true.2 ⟨(y : Int), he, by unfold atI; rw [Int.toNat_natCast]; simpa using hy⟩), dAt_set hl, if_pos rfl]
    omega
theorem distR_set {g : GraphD} {s : List Bool} {d : Int} {out : List Int} {v y : Nat} (hl : out.length = g.length) (hv : v < g.length) (hs : atB s v = false) (he : EdgeG g v y) (hy : dAt out y = d - 1) (hd : 1 ≤ d) : 0 ≤ dAt (distR g s d out g.length) v := by
  have h1 : dAt (distR g s d out v) y = d - 1 := by rw [distR_keep (by omega) v]; exact hy
  have h2 := distV_set (by rw [distR_length]; omega) hs he h1 hd
  rw [← distR_succ] at h2
  exact distR_later _ (by omega) h2
/-- After d rounds, all walks of at most d edges are known. -/
theorem distK_all {g : GraphD} {s : List Bool} {goal : Nat} {out : List Int} (hg : validG g = true) (h0 : DistInv g goal 0 out) (ho : ∀ u, 0 ≤ dAt out u → atB s u = false) : ∀ (d k v : Nat), k ≤ d → Rn g s k v goal → 0 ≤ dAt (distK g s out d) v ∧ dAt (distK g s out d) v ≤ k
  | d, 0, v, _, h => by
    cases h with
    | zero hv hs =>
      have hz : dAt out goal = 0 := (h0.goal goal hv).2 rfl
      rw [distK_later (j := 0) d (Nat.zero_le _) (by rw [distK_zero]; omega), distK_zero, hz]
      exact ⟨Int.le_refl _, Int.le_refl _⟩
  | 0, k + 1, v, hk, _ => by omega
  | d + 1, k + 1, v, hk, h => by
    by_cases hkd : k + 1 ≤ d
    · have ih := distK_all hg h0 ho d (k + 1) v hkd h
      rw [distK_later (j := d) (d + 1) (by omega) ih.1]
      exact ih
    · have hkd : k = d := by omega
      subst hkd
      have hinv := distK_inv (s := s) hg h0 (k + 1)
      have hlow := hinv.low v
      refine ⟨?_, by have := hlow.2; show dAt _ _ ≤ _; omega⟩
      cases h with
      | succ hv hs he hr =>
        rename_i y
        have ih := distK_all hg h0 ho k k y (Nat.le_refl _) hr
        by_cases hlt : dAt (distK g s out k) y < k
        · obtain ⟨j, hj⟩ := Int.eq_ofNat_of_zero_le ih.1
          have hinvk := distK_inv (s := s) hg h0 k
          have hw := dist_walk hinvk (distK_open ho k) j y hr.left.1 hj
          have ih2 := distK_all hg h0 ho k (j + 1) v (by omega) (.succ hv hs he hw)
          rw [distK_later (j := k) (k + 1) (by omega) ih2.1]
          exact ih2.1
        · rw [distK_succ]
          exact distR_set (by rw [distK_length, h0.len]) hv hs he (by have := ih.2; omega) (by omega)
/-- A list of different numbers below m has at most m elements. -/
theorem nodup_len : ∀ (m : Nat) (l : List Nat), l.Nodup → (∀ z ∈ l, z < m) → l.length ≤ m
  | 0, l, _, hl => by
    rcases l with _ | ⟨z, l⟩
    · simp
    · have := hl z (by simp); omega
  | m + 1, l, hn, hl => by
    have h1 := nodup_len m (l.filter (fun z => decide (z ≠ m))) (hn.filter _) (fun z hz => by
      obtain ⟨h2, h3⟩ := List.mem_filter.1 hz
      have := hl z h2
      simp at h3
      omega)
    have h2 := one_out m l hn
    omega
where
  one_out (m : Nat) : ∀ (l : List Nat), l.Nodup → l.length ≤ (l.filter (fun z => decide (z ≠ m))).length + 1
  | [], _ => by simp
  | z :: l, hn => by
    have hn' := List.nodup_cons.1 hn
    by_cases hz : z = m
    · have : l.filter (fun z => decide (z ≠ m)) = l := List.filter_eq_self.2 fun y hy => by
        simp
        intro e
        exact hn'.1 (by rw [hz, ← e]; exact hy)
      rw [List.filter_cons_of_neg (by simp [hz]), this, List.length_cons]
      omega
    · rw [List.filter_cons_of_pos (by simp [hz]), List.length_cons, List.length_cons]
      have := one_out m l hn'.2
      omega
/-- Vertices at each smaller distance. -/
theorem dist_layers {g : GraphD} {goal : Nat} {d : Int} {out : List Int} (h : DistInv g goal d out) : ∀ (k u : Nat), u < g.length → dAt out u = k → ∃ l : List Nat, l.length = k + 1 ∧ l.Nodup ∧ ∀ z ∈ l, z < g.length ∧ 0 ≤ dAt out z ∧ dAt out z ≤ k
  | 0, u, hu, e => ⟨[u], rfl, by simp, fun z hz => by simp at hz; subst hz; exact ⟨hu, by omega, by omega⟩⟩
  | k + 1, u, hu, e => by
    obtain ⟨x, hx, x0, x1, x2⟩ := h.step u hu (by show 0 < dAt out u; omega)
    obtain ⟨y, rfl⟩ := Int.eq_ofNat_of_zero_le x0
    have e2 : dAt out y = k := by
      unfold atI at x2
      rw [Int.toNat_natCast] at x2
      show out.getD y (-1) = _
      rw [x2]
      show dAt out u - 1 = _
      omega
    obtain ⟨l, h1, h2, h3⟩ := dist_layers h k y (by omega) e2
    refine ⟨u :: l, by simp [h1], List.nodup_cons.2 ⟨fun hm => ?_, h2⟩, fun z hz => ?_⟩
    · have := (h3 u hm).2.2
      omega
    · rcases List.mem_cons.1 hz with rfl | hz
      · exact ⟨hu, by omega, by omega⟩
      · have := h3 z hz
        exact ⟨this.1, this.2.1, by omega⟩
theorem dist_small {g : GraphD} {goal : Nat} {d : Int} {out : List Int} (h : DistInv g goal d out) {k u : Nat} (hu : u < g.length) (e : dAt out u = k) : k + 1 ≤ g.length := by
  obtain ⟨l, h1, h2, h3⟩ := dist_layers h k u hu e
  rw [← h1]
  exact nodup_len _ l h2 fun z hz => (h3 z hz).1
theorem start_open {g : GraphD} {s : List Bool} {goal : Nat} (hv : goal < g.length) (hs : atB s goal = false) : ∀ u, 0 ≤ dAt ((List.replicate g.length (-1)).set goal 0) u → atB s u = false := fun u hu => by
  rw [dAt_set (by simpa using hv)] at hu
  split at hu
  · rename_i e; subst e; exact hs
  · exfalso
    unfold dAt at hu
    rw [List.getD_eq_getElem?_getD, List.getElem?_replicate] at hu
    split at hu <;> simp at hu
/-- What Dist finds is the length of a shortest walk. -/
theorem dist_le {g : GraphD} {s : List Bool} {goal k v : Nat} (hg : validG g = true) (h : Rn g s k v goal) : 0 ≤ dAt (distF g s goal) v ∧ dAt (distF g s goal) v ≤ k := by
  have hgo := h.right
  unfold distF
  rw [hgo.2]
  simp only [Bool.false_eq_true, if_false]
  have h0 := dist_start (g := g) hgo.1
  have ho := start_open hgo.1 hgo.2
  by_cases hk : k ≤ g.length - 1
  · exact distK_all hg h0 ho _ k v hk h
  · have h1 := distK_all hg h0 ho k k v (Nat.le_refl _) h
    obtain ⟨j, hj⟩ := Int.eq_ofNat_of_zero_le h1.1
    have hinv := distK_inv (s := s) hg h0 k
    have h2 := dist_small hinv h.left.1 hj
    have h3 := dist_walk hinv (distK_open ho k) j v h.left.1 hj
    have h4 := distK_all hg h0 ho (g.length - 1) j v (by omega) h3
    refine ⟨h4.1, ?_⟩
    have := h4.2
    omega
theorem dist_is {g : GraphD} {s : List Bool} {goal k v : Nat} (hg : validG g = true) (hgo : goal < g.length) (hv : v < g.length) (h : dAt (distF g s goal) v = k) : Rn g s k v goal := by
  rcases hs : atB s goal with _ | _
  · have h0 := dist_start (g := g) hgo
    have ho := start_open hgo hs
    unfold distF at h
    rw [hs] at h
    simp only [Bool.false_eq_true, if_false] at h
    exact dist_walk (distK_inv (s := s) hg h0 _) (distK_open ho _) k v hv h
  · exfalso
    rw [distF_shut hs] at h
    unfold dAt at h
    rw [List.getD_eq_getElem?_getD, List.getElem?_replicate] at h
    split at h <;> simp at h
end Go.Proofs.Ytcfnilemikenhaa.Fl
