/- Joined texts. -/
import Derived.Test.YtfgpenekmokdiaaMzAA
namespace Go.Proofs.Ytfgpenekmokdiaa.Fl

/-- A walk of k edges between open vertices. -/
inductive Rn (g : GraphD) (s : List Bool) : Nat → Nat → Nat → Prop
  | zero {v : Nat} : v < g.length → atB s v = false → Rn g s 0 v v
  | succ {k u y v : Nat} : u < g.length → atB s u = false → EdgeG g u y → Rn g s k y v → Rn g s (k + 1) u v
theorem Rn.left {g : GraphD} {s : List Bool} {k u v : Nat} (h : Rn g s k u v) : u < g.length ∧ atB s u = false := by cases h <;> exact ⟨by assumption, by assumption⟩
theorem Rn.right {g : GraphD} {s : List Bool} {k u v : Nat} (h : Rn g s k u v) : v < g.length ∧ atB s v = false := by
  induction h with
  | zero h1 h2 => exact ⟨h1, h2⟩
  | succ _ _ _ _ ih => exact ih
theorem Rn.path {g : GraphD} {s : List Bool} {k u v : Nat} (h : Rn g s k u v) : PathG g s u v := by
  induction h with
  | zero h1 h2 => exact .refl h1 h2
  | succ h1 h2 h3 _ ih => exact .head h1 h2 h3 ih
theorem Rn.snoc {g : GraphD} {s : List Bool} {k u v y : Nat} (h : Rn g s k u v) (he : EdgeG g v y) (hy : y < g.length) (hs : atB s y = false) : Rn g s (k + 1) u y := by
  induction h with
  | zero h1 h2 => exact .succ h1 h2 he (.zero hy hs)
  | succ h1 h2 h3 _ ih => exact .succ h1 h2 h3 (ih he)
theorem rn_of_path {g : GraphD} {s : List Bool} {u v : Nat} (h : PathG g s u v) : ∃ k, Rn g s k u v := by
  induction h with
  | refl h1 h2 => exact ⟨0, .zero h1 h2⟩
  | step _ he hl hs ih =>
    obtain ⟨k, hk⟩ := ih
    exact ⟨k + 1, hk.snoc he hl hs⟩
abbrev dAt (out : List Int) (v : Nat) : Int := out.getD v (-1)
theorem dAt_set {out : List Int} {v u : Nat} {d : Int} (hv : v < out.length) : dAt (out.set v d) u = if u = v then d else dAt out u := by
  unfold dAt
  rw [List.getD_eq_getElem?_getD, List.getElem?_set, List.getD_eq_getElem?_getD]
  by_cases e : u = v
  · subst e; simp [hv]
  · rw [if_neg (fun h => e h.symm), if_neg e]
/-- What is marked stays as it is. -/
theorem distV_keep {g : GraphD} {s : List Bool} {d : Int} {out : List Int} {v u : Nat} (h : 0 ≤ dAt out u) : dAt (distV g s d out v) u = dAt out u := by
  unfold distV
  split
  · rfl
  · rename_i h1
    split
    · by_cases hv : v < out.length
      · rw [dAt_set hv]
        split
        · rename_i e
          subst e
          exfalso
          apply h1
          simp only [Bool.or_eq_true, decide_eq_true_eq]
          exact .inr h
        · rfl
      · rw [List.set_eq_of_length_le (by omega)]
    · rfl
theorem distR_keep {g : GraphD} {s : List Bool} {d : Int} {out : List Int} {u : Nat} (h : 0 ≤ dAt out u) : ∀ k, dAt (distR g s d out k) u = dAt out u
  | 0 => rfl
  | k + 1 => by rw [distR_succ, distV_keep (by rw [distR_keep h k]; exact h), distR_keep h k]
theorem distR_later {g : GraphD} {s : List Bool} {d : Int} {out : List Int} {u j : Nat} : ∀ k, j ≤ k → 0 ≤ dAt (distR g s d out j) u → 0 ≤ dAt (distR g s d out k) u
  | 0, hj, h => by
    have : j = 0 := by omega
    subst this
    exact h
  | k + 1, hj, h => by
    rcases Nat.eq_or_lt_of_le hj with rfl | hj
    · exact h
    · have := distR_later (g := g) (s := s) (d := d) (out := out) (u := u) k (by omega) h
      rw [distR_succ, distV_keep this]
      exact this
theorem distK_later {g : GraphD} {s : List Bool} {out : List Int} {u j : Nat} : ∀ k, j ≤ k → 0 ≤ dAt (distK g s out j) u → dAt (distK g s out k) u = dAt (distK g s out j) u
  | 0, hj, h => by
    have : j = 0 := by omega
    subst this
    rfl
  | k + 1, hj, h => by
    rcases Nat.eq_or_lt_of_le hj with rfl | hj
    · rfl
    · have := distK_later (g := g) (s := s) (out := out) (u := u) k (by omega) h
      rw [distK_succ, distR_keep (by rw [this]; exact h), this]
/-- Only open vertices are marked. -/
theorem distV_open {g : GraphD} {s : List Bool} {d : Int} {out : List Int} {v : Nat} (h : ∀ u, 0 ≤ dAt out u → atB s u = false) : ∀ u, 0 ≤ dAt (distV g s d out v) u → atB s u = false := by
  intro u hu
  by_cases h0 : 0 ≤ dAt out u
  · exact h u h0
  · unfold distV at hu
    split at hu
    · exact absurd hu h0
    · rename_i h1
      split at hu
      · by_cases hv : v < out.length
        · rw [dAt_set hv] at hu
          split at hu
          · rename_i e
            subst e
            simp only [Bool.or_eq_true, not_or] at h1
            simpa using h1.1
          · exact absurd hu h0
        · rw [List.set_eq_of_length_le (by omega)] at hu; exact absurd hu h0
      · exact absurd hu h0
theorem distR_open {g : GraphD} {s : List Bool} {d : Int} {out : List Int} (h : ∀ u, 0 ≤ dAt out u → atB s u = false) : ∀ k u, 0 ≤ dAt (distR g s d out k) u → atB s u = false
  | 0 => h
  | k + 1 => by rw [distR_succ]; exact distV_open (distR_open h k)
theorem distK_open {g : GraphD} {s : List Bool} {out : List Int} (h : ∀ u, 0 ≤ dAt out u → atB s u = false) : ∀ k u, 0 ≤ dAt (distK g s out k) u → atB s u = false
  | 0 => h
  | k + 1 => by rw [distK_succ]; exact distR_open (distK_open h k) _
/-- A mark is the length of a walk. -/
theorem dist_walk {g : GraphD} {s : List Bool} {goal : Nat} {d : Int} {out : List Int} (h : DistInv g goal d out) (ho : ∀ u, 0 ≤ dAt out u → atB s u = false) : ∀ (k u : Nat), u < g.length → dAt out u = k → Rn g s k u goal
  | 0, u, hu, e => by
    have := (h.goal u hu).1 e
    subst this
    exact .zero hu (ho u (by omega))
  | k + 1, u, hu, e => by
    obtain ⟨x, hx, x0, x1, x2⟩ := h.step u hu (by show 0 < dAt out u; omega)
    obtain ⟨y, rfl⟩ := Int.eq_ofNat_of_zero_le x0
    have e2 : dAt out y = k := by
      unfold atI at x2
      rw [Int.toNat_natCast] at x2
      show out.getD y (-1) = _
      rw [x2]
      show dAt out u - 1 = _
      omega
    exact .succ hu (ho u (by omega)) hx (dist_walk h ho k y (by omega) e2)
/-- A vertex with a neighbour at d - 1 is marked in round d. -/
theorem distV_set {g : GraphD} {s : List Bool} {d : Int} {out : List Int} {v : Nat} (hl : v < out.length) (hs : atB s v = false) {y : Nat} (he : EdgeG g v y) (hy : dAt out y = d - 1) (hd : 1 ≤ d) : 0 ≤ dAt (distV g s d out v) v := by
  by_cases h0 : 0 ≤ dAt out v
  · rw [distV_keep h0]; exact h0
  · unfold distV
    rw [hs, decide_eq_false h0]
    simp only [Bool.or_false, Bool.false_eq_true, if_false]
    rw [if_pos (List.any_eq_true.2 ⟨(y : Int), he, by unfold atI; rw [Int.toNat_natCast]; simpa using hy⟩), dAt_set hl, if_pos rfl]
    omega
theorem distR_set {g : GraphD} {s : List Bool} {d : Int} {out : List Int} {v y : Nat} (hl : out.length = g.length) (hv : v < g.length) (hs : atB s v = false) (he : EdgeG g v y) (hy : dAt out y = d - 1) (hd : 1 ≤ d) : 0 ≤ dAt (distR g s d out g.length) v := by
  have h1 : dAt (distR g s d out v) y = d - 1 := by rw [distR_keep (by omega) v]; exact hy
  have h2 := distV_set (by rw [distR_length]; omega) hs he h1 hd
  rw [← distR_succ] at h2
  exact distR_later _ (by omega) h2
/-- After d rounds, all walks of at most d edges are known. -/
theorem distK_all {g : GraphD} {s : List Bool} {goal : Nat} {out : List Int} (hg : validG g = true) (h0 : DistInv g goal 0 out) (ho : ∀ u, 0 ≤ dAt out u → atB s u = false) : ∀ (d k v : Nat), k ≤ d → Rn g s k v goal → 0 ≤ dAt (distK g s out d) v ∧ dAt (distK g s out d) v ≤ k
  | d, 0, v, _, h => by
    cases h with
    | zero hv hs =>
      have hz : dAt out goal = 0 := (h0.goal goal hv).2 rfl
      rw [distK_later (j := 0) d (Nat.zero_le _) (by rw [distK_zero]; omega), distK_zero, hz]
      exact ⟨Int.le_refl _, Int.le_refl _⟩
  | 0, k + 1, v, hk, _ => by omega
  | d + 1, k + 1, v, hk, h => by
    by_cases hkd : k + 1 ≤ d
    · have ih := distK_all hg h0 ho d (k + 1) v hkd h
      rw [distK_later (j := d) (d + 1) (by omega) ih.1]
      exact ih
    · have hkd : k = d := by omega
      subst hkd
      have hinv := distK_inv (s := s) hg h0 (k + 1)
      have hlow := hinv.low v
      refine ⟨?_, by have := hlow.2; show dAt _ _ ≤ _; omega⟩
      cases h with
      | succ hv hs he hr =>
        rename_i y
        have ih := distK_all hg h0 ho k k y (Nat.le_refl _) hr
        by_cases hlt : dAt (distK g s out k) y < k
        · obtain ⟨j, hj⟩ := Int.eq_ofNat_of_zero_le ih.1
          have hinvk := distK_inv (s := s) hg h0 k
          have hw := dist_walk hinvk (distK_open ho k) j y hr.left.1 hj
          have ih2 := distK_all hg h0 ho k (j + 1) v (by omega) (.succ hv hs he hw)
          rw [distK_later (j := k) (k + 1) (by omega) ih2.1]
          exact ih2.1
        · rw [distK_succ]
          exact distR_set (by rw [distK_length, h0.len]) hv hs he (by have := ih.2; omega) (by omega)
/-- A list of different numbers below m has at most m elements. -/
theorem nodup_len : ∀ (m : Nat) (l : List Nat), l.Nodup → (∀ z ∈ l, z < m) → l.length ≤ m
  | 0, l, _, hl => by
    rcases l with _ | ⟨z, l⟩
    · simp
    · have := hl z (by simp); omega
  | m + 1, l, hn, hl => by
    have h1 := nodup_len m (l.filter (fun z => decide (z ≠ m))) (hn.filter _) (fun z hz => by
      obtain ⟨h2, h3⟩ := List.mem_filter.1 hz
      have := hl z h2
      simp at h3
      omega)
    have h2 := one_out m l hn
    omega
where
  one_out (m : Nat) : ∀ (l : List Nat), l.Nodup → l.length ≤ (l.filter (fun z => decide (z ≠ m))).length + 1
  | [], _ => by simp
  | z :: l, hn => by
    have hn' := List.nodup_cons.1 hn
    by_cases hz : z = m
    · have : l.filter (fun z => decide (z ≠ m)) = l := List.filter_eq_self.2 fun y hy => by
        simp
        intro e
        exact hn'.1 (by rw [hz, ← e]; exact hy)
      rw [List.filter_cons_of_neg (by simp [hz]), this, List.length_cons]
      omega
    · rw [List.filter_cons_of_pos (by simp [hz]), List.length_cons, List.length_cons]
      have := one_out m l hn'.2
      omega
/-- Vertices at each smaller distance. -/
theorem dist_layers {g : GraphD} {goal : Nat} {d : Int} {out : List Int} (h : DistInv g goal d out) : ∀ (k u : Nat), u < g.length → dAt out u = k → ∃ l : List Nat, l.length = k + 1 ∧ l.Nodup ∧ ∀ z ∈ l, z < g.length ∧ 0 ≤ dAt out z ∧ dAt out z ≤ k
  | 0, u, hu, e => ⟨[u], rfl, by simp, fun z hz => by simp at hz; subst hz; exact ⟨hu, by omega, by omega⟩⟩
  | k + 1, u, hu, e => by
    obtain ⟨x, hx, x0, x1, x2⟩ := h.step u hu (by show 0 < dAt out u; omega)
    obtain ⟨y, rfl⟩ := Int.eq_ofNat_of_zero_le x0
    have e2 : dAt out y = k := by
      unfold atI at x2
      rw [Int.toNat_natCast] at x2
      show out.getD y (-1) = _
      rw [x2]
      show dAt out u - 1 = _
      omega
    obtain ⟨l, h1, h2, h3⟩ := dist_layers h k y (by omega) e2
    refine ⟨u :: l, by simp [h1], List.nodup_cons.2 ⟨fun hm => ?_, h2⟩, fun z hz => ?_⟩
    · have := (h3 u hm).2.2
      omega
    · rcases List.mem_cons.1 hz with rfl | hz
      · exact ⟨hu, by omega, by omega⟩
      · have := h3 z hz
        exact ⟨this.1, this.2.1, by omega⟩
theorem dist_small {g : GraphD} {goal : Nat} {d : Int} {out : List Int} (h : DistInv g goal d out) {k u : Nat} (hu : u < g.length) (e : dAt out u = k) : k + 1 ≤ g.length := by
  obtain ⟨l, h1, h2, h3⟩ := dist_layers h k u hu e
  rw [← h1]
  exact nodup_len _ l h2 fun z hz => (h3 z hz).1
theorem start_open {g : GraphD} {s : List Bool} {goal : Nat} (hv : goal < g.length) (hs : atB s goal = false) : ∀ u, 0 ≤ dAt ((List.replicate g.length (-1)).set goal 0) u → atB s u = false := fun u hu => by
  rw [dAt_set (by simpa using hv)] at hu
  split at hu
  · rename_i e; subst e; exact hs
  · exfalso
    unfold dAt at hu
    rw [List.getD_eq_getElem?_getD, List.getElem?_replicate] at hu
    split at hu <;> simp at hu
/-- What Dist finds is the length of a shortest walk. -/
theorem dist_le {g : GraphD} {s : List Bool} {goal k v : Nat} (hg : validG g = true) (h : Rn g s k v goal) : 0 ≤ dAt (distF g s goal) v ∧ dAt (distF g s goal) v ≤ k := by
  have hgo := h.right
  unfold distF
  rw [hgo.2]
  simp only [Bool.false_eq_true, if_false]
  have h0 := dist_start (g := g) hgo.1
  have ho := start_open hgo.1 hgo.2
  by_cases hk : k ≤ g.length - 1
  · exact distK_all hg h0 ho _ k v hk h
  · have h1 := distK_all hg h0 ho k k v (Nat.le_refl _) h
    obtain ⟨j, hj⟩ := Int.eq_ofNat_of_zero_le h1.1
    have hinv := distK_inv (s := s) hg h0 k
    have h2 := dist_small hinv h.left.1 hj
    have h3 := dist_walk hinv (distK_open ho k) j v h.left.1 hj
    have h4 := distK_all hg h0 ho (g.length - 1) j v (by omega) h3
    refine ⟨h4.1, ?_⟩
    have := h4.2
    omega
theorem dist_is {g : GraphD} {s : List Bool} {goal k v : Nat} (hg : validG g = true) (hgo : goal < g.length) (hv : v < g.length) (h : dAt (distF g s goal) v = k) : Rn g s k v goal := by
  rcases hs : atB s goal with _ | _
  · have h0 := dist_start (g := g) hgo
    have ho := start_open hgo hs
    unfold distF at h
    rw [hs] at h
    simp only [Bool.false_eq_true, if_false] at h
    exact dist_walk (distK_inv (s := s) hg h0 _) (distK_open ho _) k v hv h
  · exfalso
    rw [distF_shut hs] at h
    unfold dAt at h
    rw [List.getD_eq_getElem?_getD, List.getElem?_replicate] at h
    split at h <;> simp at h
end Go.Proofs.Ytfgpenekmokdiaa.Fl
namespace Go.Proofs.Ytfgpenekmokdiaa.Fl

def okV (g : GraphD) (s : List Bool) (x : Int) : Prop := 0 ≤ x ∧ x < g.length ∧ atB s x.toNat = false
def edgeI (g : GraphD) (x y : Int) : Prop := y ∈ rowG g x.toNat
structure WalkL (g : GraphD) (s : List Bool) (l : List Int) : Prop where
  ne : l ≠ []
  ok : ∀ x ∈ l, okV g s x
  edge : ∀ (i : Nat) (x y : Int), l[i]? = some x → l[i + 1]? = some y → edgeI g x y
structure ClosedL (g : GraphD) (s : List Bool) (l : List Int) : Prop where
  walk : WalkL g s l
  back : ∀ x y : Int, l[0]? = some x → l[l.length - 1]? = some y → edgeI g y x
theorem get_mem {l : List Int} {i : Nat} {x : Int} (h : l[i]? = some x) : x ∈ l := by
  obtain ⟨hi, e⟩ := List.getElem?_eq_some_iff.1 h
  rw [← e]; exact List.getElem_mem hi
theorem edgeI_nat {g : GraphD} {s : List Bool} {x y : Int} (h : edgeI g x y) (hy : okV g s y) : EdgeG g x.toNat y.toNat := by
  unfold EdgeG
  rw [Int.toNat_of_nonneg hy.1]
  exact h
theorem WalkL.one {g : GraphD} {s : List Bool} {x : Int} (h : okV g s x) : WalkL g s [x] := ⟨by simp, fun y hy => by simp at hy; subst hy; exact h, fun i y z _ h2 => by simp at h2⟩
theorem WalkL.cons {g : GraphD} {s : List Bool} {x y : Int} {l : List Int} (hx : okV g s x) (he : edgeI g x y) (h : WalkL g s (y :: l)) : WalkL g s (x :: y :: l) := by
  refine ⟨by simp, fun z hz => ?_, fun i a b ha hb => ?_⟩
  · rcases List.mem_cons.1 hz with rfl | hz
    · exact hx
    · exact h.ok z hz
  · rcases i with _ | i
    · simp at ha hb
      subst ha hb
      exact he
    · exact h.edge i a b (by simpa using ha) (by simpa using hb)
theorem WalkL.rn {g : GraphD} {s : List Bool} {l : List Int} (h : WalkL g s l) : ∀ (k i : Nat) (x y : Int), l[i]? = some x → l[i + k]? = some y → Rn g s k x.toNat y.toNat
  | 0, i, x, y, hx, hy => by
    rw [Nat.add_zero, hx] at hy
    injection hy with hy
    subst hy
    have := h.ok x (get_mem hx)
    exact .zero (by obtain ⟨a, b, _⟩ := this; omega) this.2.2
  | k + 1, i, x, y, hx, hy => by
    have hlt : i + 1 < l.length := by have := (List.getElem?_eq_some_iff.1 hy).1; omega
    have hz : l[i + 1]? = some l[i + 1] := List.getElem?_eq_getElem hlt
    have hxo := h.ok x (get_mem hx)
    have hzo := h.ok _ (get_mem hz)
    exact .succ (by have := hxo.1; have := hxo.2.1; omega) hxo.2.2 (edgeI_nat (h.edge i x _ hx hz) hzo) (h.rn k (i + 1) _ y hz (by rw [← hy]; congr 1; omega))
/-- A part of a walk. -/
theorem WalkL.part {g : GraphD} {s : List Bool} {l : List Int} (h : WalkL g s l) {i m : Nat} (hm : 0 < m) (hl : i + m ≤ l.length) : WalkL g s ((l.drop i).take m) := by
  refine ⟨fun e => ?_, fun x hx => h.ok x (List.mem_of_mem_drop (List.mem_of_mem_take hx)), fun k x y hx hy => ?_⟩
  · have := congrArg List.length e
    simp at this
    omega
  · rw [List.getElem?_take] at hx hy
    split at hy
    · rename_i hk
      rw [if_pos (by omega), List.getElem?_drop] at hx
      rw [List.getElem?_drop] at hy
      exact h.edge (i + k) x y hx hy
    · cases hy
/-- The hops lead to the goal. -/
theorem hop_edge {g : GraphD} {dist : List Int} {v y : Nat} (h : hopV g dist v = y) : EdgeG g v y ∧ 0 < dAt dist v := by
  unfold hopV at h
  split at h
  · rename_i hp
    refine ⟨?_, hp⟩
    unfold hopOf at h
    rcases hf : (rowG g v).find? (fun x => decide (atI dist x = dist.getD v (-1) - 1)) with _ | z
    · rw [hf] at h
      exact absurd (show (-1 : Int) = y from h) (by omega)
    · rw [hf] at h
      have h : z = (y : Int) := h
      unfold EdgeG
      rw [← h]
      exact List.mem_of_find?_eq_some hf
  · omega
theorem pathF_walk {g : GraphD} {s : List Bool} {goal : Nat} (hg : validG g = true) (hgo : goal < g.length) : ∀ (f v : Nat), v < g.length → dAt (distF g s goal) v = f → WalkL g s (pathF (hopsL g (distF g s goal)) f v) ∧ (pathF (hopsL g (distF g s goal)) f v)[0]? = some (v : Int) ∧ (pathF (hopsL g (distF g s goal)) f v)[f]? = some (goal : Int)
  | 0, v, hv, h => by
    have hr := dist_is (s := s) hg hgo hv h
    cases hr with
    | zero h1 h2 => exact ⟨.one ⟨by omega, by omega, by rw [Int.toNat_natCast]; exact h2⟩, rfl, rfl⟩
  | f + 1, v, hv, h => by
    have hr := dist_is (s := s) hg hgo hv h
    have hso := hr.right.2
    obtain ⟨y, hy1, hy2, hy3⟩ := hop_near (distF_inv (s := s) hg hgo hso) hg hv (by show 0 < dAt _ _; omega)
    have hd : dAt (distF g s goal) y = f := by
      show (distF g s goal).getD y (-1) = _
      rw [hy3]
      show dAt (distF g s goal) v - 1 = _
      omega
    obtain ⟨h1, h2, h3⟩ := pathF_walk hg hgo f y hy2 hd
    have hat : atI (hopsL g (distF g s goal)) v = (y : Int) := by
      unfold atI
      rw [Int.toNat_natCast, List.getD_eq_getElem?_getD, hopsL_at hv, hy1]
      rfl
    have hp : pathF (hopsL g (distF g s goal)) (f + 1) v = (v : Int) :: pathF (hopsL g (distF g s goal)) f y := by
      show (v : Int) :: pathF _ f (atI _ v) = _
      rw [hat]
    rw [hp]
    obtain ⟨t, ht⟩ : ∃ t, pathF (hopsL g (distF g s goal)) f y = (y : Int) :: t := by
      rcases hc : pathF (hopsL g (distF g s goal)) f y with _ | ⟨z, t⟩
      · rw [hc] at h2; simp at h2
      · rw [hc] at h2
        simp at h2
        exact ⟨t, by rw [h2]⟩
    refine ⟨?_, rfl, by simpa using h3⟩
    rw [ht] at h1 ⊢
    exact .cons ⟨by omega, by omega, by rw [Int.toNat_natCast]; exact hr.left.2⟩ (by unfold edgeI; rw [Int.toNat_natCast]; exact (hop_edge hy1).1) h1
theorem bestK_mem {g : GraphD} {v : Nat} {dist : List Int} (hg : validG g = true) (hv : v < g.length) : ∀ (k : Nat), k ≤ (rowG g v).length → 0 ≤ bestK (rowG g v) dist k → bestK (rowG g v) dist k ∈ rowG g v ∧ 0 ≤ atI dist (bestK (rowG g v) dist k)
  | 0, _, h => by simp [bestK] at h
  | k + 1, hk, h => by
    unfold bestK at h ⊢
    simp only at h ⊢
    split
    · rename_i hc
      have hx : (rowG g v).getD k 0 ∈ rowG g v := by
        rw [List.getD_eq_getElem?_getD, List.getElem?_eq_getElem (by omega)]
        exact List.getElem_mem _
      exact ⟨hx, hc.1⟩
    · rename_i hc
      rw [if_neg hc] at h
      exact bestK_mem hg hv k (by omega) h
theorem bestK_least {g : GraphD} {v : Nat} {dist : List Int} (hg : validG g = true) (hv : v < g.length) : ∀ (k j : Nat), k ≤ (rowG g v).length → j < k → 0 ≤ atI dist ((rowG g v).getD j 0) → 0 ≤ bestK (rowG g v) dist k ∧ atI dist (bestK (rowG g v) dist k) ≤ atI dist ((rowG g v).getD j 0)
  | 0, j, _, h, _ => by omega
  | k + 1, j, hk, h, h0 => by
    have ih := fun hj => bestK_least (dist := dist) hg hv k j (by omega) hj h0
    have hx0 : 0 ≤ (rowG g v).getD k 0 := by
      have hx : (rowG g v).getD k 0 ∈ rowG g v := by
        rw [List.getD_eq_getElem?_getD, List.getElem?_eq_getElem (by omega)]
        exact List.getElem_mem _
      exact (validG_row hg hv _ (by rw [← rowG_at hv]; exact hx)).1
    unfold bestK
    simp only
    by_cases hjk : j = k
    · subst hjk
      split
      · exact ⟨hx0, Int.le_refl _⟩
      · rename_i hc
        by_cases hb : bestK (rowG g v) dist j < 0
        · exact absurd ⟨h0, .inl hb⟩ hc
        · refine ⟨by omega, ?_⟩
          have : ¬ atI dist ((rowG g v).getD j 0) < atI dist (bestK (rowG g v) dist j) := fun hl => hc ⟨h0, .inr hl⟩
          omega
    · obtain ⟨i1, i2⟩ := ih (by omega)
      split
      · rename_i hc
        refine ⟨hx0, ?_⟩
        rcases hc.2 with h2 | h2
        · omega
        · omega
      · exact ⟨i1, i2⟩
/-- What through finds is a closed walk from v. -/
theorem thr_closed {g : GraphD} {s : List Bool} {v : Nat} (hg : validG g = true) (hv : v < g.length) (h : thrF g s v ≠ []) : ClosedL g s (thrF g s v) ∧ (thrF g s v)[0]? = some (v : Int) ∧ ∃ b : Nat, EdgeG g v b ∧ b < g.length ∧ 0 ≤ dAt (distF g s v) b ∧ ((thrF g s v).length : Int) = dAt (distF g s v) b + 1 ∧ bestK (rowG g v) (distF g s v) (rowG g v).length = b := by
  unfold thrF at h ⊢
  rcases hs : atB s v with _ | _
  · rw [hs] at h
    simp only [Bool.false_eq_true, if_false] at h ⊢
    by_cases hb : bestK (rowG g v) (distF g s v) (rowG g v).length < 0
    · rw [if_pos hb] at h; exact absurd rfl h
    · rw [if_neg hb]
      obtain ⟨h1, h2⟩ := bestK_mem (dist := distF g s v) hg hv _ (Nat.le_refl _) (by omega)
      obtain ⟨b, hbb⟩ := Int.eq_ofNat_of_zero_le (show 0 ≤ bestK (rowG g v) (distF g s v) (rowG g v).length by omega)
      rw [hbb] at h1 h2 ⊢
      rw [Int.toNat_natCast]
      have he : EdgeG g v b := h1
      have hbr := he.range hg
      have hd0 : 0 ≤ dAt (distF g s v) b := by
        unfold atI at h2
        rw [Int.toNat_natCast] at h2
        exact h2
      obtain ⟨f, hf⟩ := Int.eq_ofNat_of_zero_le hd0
      obtain ⟨w1, w2, w3⟩ := pathF_walk (s := s) hg hv f b hbr.2.1 hf
      have hfp : 0 < f := by
        rcases f with _ | f
        · exfalso
          simp only [pathF] at w3
          simp at w3
          omega
        · omega
      have hff : firstF g s b v = pathF (hopsL g (distF g s v)) f b := by
        unfold firstF
        have : ¬ (distF g s v).getD b (-1) < 0 := by show ¬ dAt _ _ < 0; omega
        rw [if_neg this]
        show pathF _ (dAt (distF g s v) b).toNat b = _
        rw [hf, Int.toNat_natCast]
      rw [hff]
      have hlen := pathF_length (hopsL g (distF g s v)) f (b : Int)
      generalize pathF (hopsL g (distF g s v)) f (b : Int) = p at *
      have hdl : p.dropLast = (p.drop 0).take f := by rw [List.drop_zero, List.dropLast_eq_take, hlen]; congr 1
      have hw := w1.part (i := 0) (m := f) hfp (by omega)
      rw [← hdl] at hw
      obtain ⟨t, ht⟩ : ∃ t, p.dropLast = (b : Int) :: t := by
        rcases hc : p.dropLast with _ | ⟨z, t⟩
        · exact absurd hc hw.ne
        · have : p.dropLast[0]? = some (b : Int) := by rw [hdl, List.drop_zero, List.getElem?_take, if_pos hfp]; exact w2
          rw [hc] at this
          simp at this
          exact ⟨t, by rw [this]⟩
      have hvo : okV g s (v : Int) := ⟨by omega, by omega, by rw [Int.toNat_natCast]; exact hs⟩
      have htl : t.length + 1 = f := by
        have := congrArg List.length ht
        rw [List.length_dropLast, hlen, List.length_cons] at this
        omega
      refine ⟨⟨?_, fun x y hx hy => ?_⟩, rfl, b, he, hbr.2.1, hd0, ?_, rfl⟩
      · rw [ht] at hw ⊢
        exact .cons hvo (by unfold edgeI; rw [Int.toNat_natCast]; exact he) hw
      · simp at hx
        subst hx
        have hy2 : p[f - 1]? = some y := by
          have h3 : ((v : Int) :: p.dropLast).length - 1 = (f - 1) + 1 := by rw [List.length_cons, List.length_dropLast, hlen]; omega
          rw [h3, List.getElem?_cons_succ, hdl, List.drop_zero, List.getElem?_take, if_pos (by omega)] at hy
          exact hy
        exact w1.edge (f - 1) y v hy2 (by rw [show f - 1 + 1 = f by omega]; exact w3)
      · rw [List.length_cons, List.length_dropLast, hlen, hf]
        omega
  · rw [hs] at h
    simp at h
/-- .. and none from v is shorter. -/
theorem thr_least {g : GraphD} {s : List Bool} {v : Nat} {l : List Int} (hg : validG g = true) (hv : v < g.length) (h : ClosedL g s l) (h0 : l[0]? = some (v : Int)) : thrF g s v ≠ [] ∧ (thrF g s v).length ≤ l.length := by
  have hvo := h.walk.ok _ (get_mem h0)
  have hs : atB s v = false := by have := hvo.2.2; rwa [Int.toNat_natCast] at this
  have hl : 0 < l.length := (List.getElem?_eq_some_iff.1 h0).1
  have hz : l[l.length - 1]? = some l[l.length - 1] := List.getElem?_eq_getElem (by omega)
  have hback := h.back v _ h0 hz
  have hlo := h.walk.ok _ (get_mem hz)
  by_cases h1 : l.length = 1
  · exfalso
    have e : l[l.length - 1] = (v : Int) := by
      have : l[l.length - 1]? = l[0]? := by rw [h1]
      rw [hz, h0] at this
      injection this
    rw [e] at hback
    have he := edgeI_nat hback hvo
    rw [Int.toNat_natCast] at he
    exact (he.range hg).2.2 rfl
  · have hy : l[1]? = some l[1] := List.getElem?_eq_getElem (by omega)
    have hedge := h.walk.edge 0 v _ h0 hy
    have hyo := h.walk.ok _ (get_mem hy)
    have hr := h.walk.rn (l.length - 2) 1 _ _ hy (by rw [← hz]; congr 1; omega)
    have hr2 := hr.snoc (edgeI_nat hback hvo) (by rw [Int.toNat_natCast]; exact hv) (by rw [Int.toNat_natCast]; exact hs)
    rw [Int.toNat_natCast] at hr2
    have hd := dist_le hg hr2
    unfold edgeI at hedge
    rw [Int.toNat_natCast] at hedge
    obtain ⟨j, hj, e⟩ := List.mem_iff_getElem.1 hedge
    have hgd : (rowG g v).getD j 0 = l[1] := by rw [List.getD_eq_getElem?_getD, List.getElem?_eq_getElem hj, e]; rfl
    have hat : atI (distF g s v) ((rowG g v).getD j 0) = dAt (distF g s v) l[1].toNat := by rw [hgd]; rfl
    obtain ⟨b1, b2⟩ := bestK_least (dist := distF g s v) hg hv _ j (Nat.le_refl _) hj (by rw [hat]; exact hd.1)
    have hne : thrF g s v ≠ [] := by
      unfold thrF
      rw [hs]
      simp only [Bool.false_eq_true, if_false]
      rw [if_neg (by omega)]
      simp
    refine ⟨hne, ?_⟩
    obtain ⟨_, _, b, _, _, hb0, hbl, hbb⟩ := thr_closed hg hv hne
    rw [hat, hbb] at b2
    have hb3 : atI (distF g s v) (b : Int) = dAt (distF g s v) b := by unfold atI; rw [Int.toNat_natCast]
    rw [hb3] at b2
    have := hd.2
    omega
theorem girK_closed {g : GraphD} {s : List Bool} (hg : validG g = true) : ∀ k, k ≤ g.length → girK g s k ≠ [] → ∃ v, v < k ∧ girK g s k = thrF g s v
  | 0, _, h => by simp [girK] at h
  | k + 1, hk, h => by
    unfold girK at h ⊢
    simp only at h ⊢
    split
    · exact ⟨k, by omega, rfl⟩
    · rename_i hc
      rw [if_neg hc] at h
      obtain ⟨v, hv, e⟩ := girK_closed hg k (by omega) h
      exact ⟨v, by omega, e⟩
theorem girK_least {g : GraphD} {s : List Bool} : ∀ k v, v < k → thrF g s v ≠ [] → girK g s k ≠ [] ∧ (girK g s k).length ≤ (thrF g s v).length
  | 0, v, h, _ => by omega
  | k + 1, v, h, hne => by
    have hpos : 0 < (thrF g s v).length := List.length_pos_iff.2 hne
    unfold girK
    simp only
    by_cases hvk : v = k
    · subst hvk
      split
      · exact ⟨hne, Nat.le_refl _⟩
      · rename_i hc
        have h1 : ¬ (girK g s v).length = 0 := fun e => hc ⟨hpos, .inl e⟩
        have h2 : ¬ (thrF g s v).length < (girK g s v).length := fun e => hc ⟨hpos, .inr e⟩
        exact ⟨fun e => h1 (by rw [e]; rfl), by omega⟩
    · obtain ⟨i1, i2⟩ := girK_least k v (by omega) hne
      split
      · rename_i hc
        refine ⟨List.length_pos_iff.1 hc.1, ?_⟩
        rcases hc.2 with h3 | h3
        · exact absurd (List.eq_nil_of_length_eq_zero h3) i1
        · omega
      · exact ⟨i1, i2⟩
theorem gir_closed {g : GraphD} {s : List Bool} (hg : validG g = true) (h : girF g s ≠ []) : ClosedL g s (girF g s) := by
  obtain ⟨v, hv, e⟩ := girK_closed hg _ (Nat.le_refl _) h
  unfold girF at h ⊢
  rw [e] at h ⊢
  exact (thr_closed hg hv h).1
theorem gir_least {g : GraphD} {s : List Bool} {l : List Int} (hg : validG g = true) (h : ClosedL g s l) : girF g s ≠ [] ∧ (girF g s).length ≤ l.length := by
  have hl : 0 < l.length := List.length_pos_iff.2 h.walk.ne
  have h0 : l[0]? = some l[0] := List.getElem?_eq_getElem hl
  have ho := h.walk.ok _ (get_mem h0)
  obtain ⟨v, hv⟩ := Int.eq_ofNat_of_zero_le ho.1
  have hvl : v < g.length := by have := ho.2.1; omega
  obtain ⟨t1, t2⟩ := thr_least hg hvl h (by rw [h0, hv])
  obtain ⟨g1, g2⟩ := girK_least g.length v hvl t1
  exact ⟨g1, Nat.le_trans g2 t2⟩
/-- No vertex twice. -/
theorem gir_nodup {g : GraphD} {s : List Bool} (hg : validG g = true) : (girF g s).Nodup := by
  refine List.pairwise_iff_getElem.2 fun i j hi hj hij e => ?_
  have hne : girF g s ≠ [] := fun e => by rw [e] at hi; simp at hi
  have hc := gir_closed hg hne
  have hp := hc.walk.part (i := i) (m := j - i) (by omega) (by omega)
  have hcl : ClosedL g s (((girF g s).drop i).take (j - i)) := by
    refine ⟨hp, fun x y hx hy => ?_⟩
    have hlen : (((girF g s).drop i).take (j - i)).length = j - i := by rw [List.length_take, List.length_drop]; omega
    rw [List.getElem?_take, if_pos (by omega), List.getElem?_drop, Nat.add_zero, List.getElem?_eq_getElem hi] at hx
    injection hx with hx
    rw [hlen, List.getElem?_take, if_pos (by omega), List.getElem?_drop, show i + (j - i - 1) = j - 1 by omega] at hy
    refine hc.walk.edge (j - 1) y x hy ?_
    rw [show j - 1 + 1 = j by omega, List.getElem?_eq_getElem hj, ← e, hx]
  have := (gir_least hg hcl).2
  rw [List.length_take, List.length_drop] at this
  omega
end Go.Proofs.Ytfgpenekmokdiaa.Fl
