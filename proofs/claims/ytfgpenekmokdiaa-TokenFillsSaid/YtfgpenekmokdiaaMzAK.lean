/- Joined texts. -/
import Derived.Test.YtfgpenekmokdiaaMzAJ
import Derived.Test.YtfgpenekmokdiaaMzAC
namespace Go.Proofs.Ytfgpenekmokdiaa.Fl

/-- How far a vertex is from the entrance. -/
def farI (g : GraphD) (sh : List Bool) (e : Nat) (x : Int) : Int := dAt (distF g sh x.toNat) e
theorem first_len {g : GraphD} {sh : List Bool} {e : Nat} {x : Int} (hg : validG g = true) (he : e < g.length) (hx : 0 ≤ x ∧ x < g.length) : (farI g sh e x < 0 → firstF g sh e x.toNat = []) ∧ (0 ≤ farI g sh e x → ((firstF g sh e x.toNat).length : Int) = farI g sh e x + 1) := by
  have hxg : x.toNat < g.length := by omega
  unfold farI
  rcases first_cases (s := sh) hg he hxg with ⟨h1, h2⟩ | h
  · exact ⟨fun _ => h1, fun h3 => by omega⟩
  · have := h.pos
    have := h.dist
    exact ⟨fun h3 => by omega, fun _ => by omega⟩
theorem nearK_tie (g : GraphD) (sh : List Bool) (w : List Int) (e : Nat) : ∀ k, (nearK g sh w e k = (-1, -1) ∧ ∀ j, j < k → farI g sh e (atI w j) < 0) ∨
    ∃ p, p < k ∧ nearK g sh w e k = (farI g sh e (atI w p), (p : Int)) ∧ 0 ≤ farI g sh e (atI w p) ∧ ∀ j, j < k → farI g sh e (atI w j) < 0 ∨ farI g sh e (atI w p) < farI g sh e (atI w j) ∨ farI g sh e (atI w p) = farI g sh e (atI w j) ∧ atI w p ≤ atI w j
  | 0 => .inl ⟨rfl, fun j h => by omega⟩
  | k + 1 => by
    have ih := nearK_tie g sh w e k
    unfold nearK
    simp only
    have hD : dAt (distF g sh (atI w k).toNat) e = farI g sh e (atI w k) := rfl
    rw [hD]
    generalize hdd : (fun j : Nat => farI g sh e (atI w j)) = D at *
    have hD : ∀ j : Nat, farI g sh e (atI w j) = D j := fun j => by rw [← hdd]
    simp only [hD] at ih ⊢
    rcases ih with ⟨h1, h2⟩ | ⟨p, hp, h1, h2, h3⟩
    · rw [h1]
      simp only
      by_cases h : 0 ≤ D k
      · rw [if_pos ⟨h, .inl (by omega)⟩]
        refine .inr ⟨k, by omega, rfl, h, fun j hj => ?_⟩
        rcases Nat.lt_succ_iff_lt_or_eq.1 hj with h3 | rfl
        · exact .inl (h2 j h3)
        · exact .inr (.inr ⟨rfl, Int.le_refl _⟩)
      · rw [if_neg (fun h' => h h'.1)]
        refine .inl ⟨rfl, fun j hj => ?_⟩
        rcases Nat.lt_succ_iff_lt_or_eq.1 hj with h3 | rfl
        · exact h2 j h3
        · omega
    · rw [h1]
      simp only
      by_cases h : 0 ≤ D k ∧ (D p < 0 ∨ D k < D p ∨ D k = D p ∧ atI w k < atI w p)
      · rw [if_pos h]
        refine .inr ⟨k, by omega, rfl, h.1, fun j hj => ?_⟩
        rcases Nat.lt_succ_iff_lt_or_eq.1 hj with h4 | rfl
        · have hh := h.2
          rcases h3 j h4 with h5 | h5 | ⟨h5, h6⟩
          · exact .inl h5
          · right
            rcases hh with h7 | h7 | h7
            · omega
            · left; omega
            · left; omega
          · right
            rcases hh with h7 | h7 | h7
            · omega
            · left; omega
            · right; exact ⟨by omega, by omega⟩
        · exact .inr (.inr ⟨rfl, Int.le_refl _⟩)
      · rw [if_neg h]
        refine .inr ⟨p, by omega, rfl, h2, fun j hj => ?_⟩
        rcases Nat.lt_succ_iff_lt_or_eq.1 hj with h4 | rfl
        · exact h3 j h4
        · by_cases h5 : 0 ≤ D j
          · right
            have h6 : ¬ (D p < 0 ∨ D j < D p ∨ D j = D p ∧ atI w j < atI w p) := fun h6 => h ⟨h5, h6⟩
            omega
          · left; omega
/-- The shortest path to one of the first k goals, the first one of equal ones. -/
def bstK (g : GraphD) (sh : List Bool) (e : Nat) (S : List Int) : Nat → List Int
  | 0 => []
  | k + 1 => if 0 < (firstF g sh e (atI S k).toNat).length ∧ ((bstK g sh e S k).length = 0 ∨ (firstF g sh e (atI S k).toNat).length < (bstK g sh e S k).length) then firstF g sh e (atI S k).toNat else bstK g sh e S k
theorem bstK_ok {g : GraphD} {sh : List Bool} {e : Nat} {S : List Int} (hg : validG g = true) (he : e < g.length) (hS : ∀ x ∈ S, 0 ≤ x ∧ x < g.length) : ∀ k, k ≤ S.length → (bstK g sh e S k = [] ∧ ∀ j, j < k → farI g sh e (atI S j) < 0) ∨
    ∃ q, q < k ∧ bstK g sh e S k = firstF g sh e (atI S q).toNat ∧ 0 ≤ farI g sh e (atI S q) ∧ ∀ j, j < k → farI g sh e (atI S j) < 0 ∨ farI g sh e (atI S q) < farI g sh e (atI S j) ∨ farI g sh e (atI S q) = farI g sh e (atI S j) ∧ q ≤ j
  | 0, _ => .inl ⟨rfl, fun j h => by omega⟩
  | k + 1, hk => by
    have ih := bstK_ok (sh := sh) hg he hS k (by omega)
    have hx : 0 ≤ atI S k ∧ atI S k < g.length := by rw [atI_get hk]; exact hS _ (List.getElem_mem hk)
    obtain ⟨l1, l2⟩ := first_len (sh := sh) hg he hx
    unfold bstK
    rcases ih with ⟨h1, h2⟩ | ⟨q, hq, h1, h2, h3⟩
    · rw [h1]
      by_cases h : 0 ≤ farI g sh e (atI S k)
      · have := l2 h
        rw [if_pos ⟨by omega, .inl rfl⟩]
        refine .inr ⟨k, by omega, rfl, h, fun j hj => ?_⟩
        rcases Nat.lt_succ_iff_lt_or_eq.1 hj with h3 | rfl
        · exact .inl (h2 j h3)
        · exact .inr (.inr ⟨rfl, Nat.le_refl _⟩)
      · have := l1 (by omega)
        rw [if_neg (fun h' => by rw [this] at h'; simp at h')]
        refine .inl ⟨rfl, fun j hj => ?_⟩
        rcases Nat.lt_succ_iff_lt_or_eq.1 hj with h3 | rfl
        · exact h2 j h3
        · omega
    · have hqS : q < S.length := by omega
      have hxq : 0 ≤ atI S q ∧ atI S q < g.length := by rw [atI_get hqS]; exact hS _ (List.getElem_mem hqS)
      have l3 := (first_len (sh := sh) hg he hxq).2 h2
      rw [h1]
      by_cases h : 0 ≤ farI g sh e (atI S k) ∧ farI g sh e (atI S k) < farI g sh e (atI S q)
      · have := l2 h.1
        rw [if_pos ⟨by omega, .inr (by omega)⟩]
        refine .inr ⟨k, by omega, rfl, h.1, fun j hj => ?_⟩
        rcases Nat.lt_succ_iff_lt_or_eq.1 hj with h4 | rfl
        · rcases h3 j h4 with h5 | h5 | h5
          · exact .inl h5
          · right; left; omega
          · right; left; omega
        · exact .inr (.inr ⟨rfl, Nat.le_refl _⟩)
      · rw [if_neg (fun h' => by
          obtain ⟨h5, h6⟩ := h'
          by_cases h7 : 0 ≤ farI g sh e (atI S k)
          · have := l2 h7
            rcases h6 with h6 | h6
            · omega
            · exact h ⟨h7, by omega⟩
          · rw [l1 (by omega)] at h5; simp at h5)]
        refine .inr ⟨q, by omega, rfl, h2, fun j hj => ?_⟩
        rcases Nat.lt_succ_iff_lt_or_eq.1 hj with h4 | rfl
        · exact h3 j h4
        · by_cases h7 : 0 ≤ farI g sh e (atI S j)
          · right
            have h8 : ¬ farI g sh e (atI S j) < farI g sh e (atI S q) := fun h8 => h ⟨h7, h8⟩
            rcases Int.lt_or_le (farI g sh e (atI S q)) (farI g sh e (atI S j)) with h9 | h9
            · exact .inl h9
            · exact .inr ⟨by omega, by omega⟩
          · left; omega
/-- Over the sorted walk the shortest path leads to the nearest vertex. -/
theorem best_near {g : GraphD} {sh : List Bool} {e : Nat} {w S : List Int} (hg : validG g = true) (he : e < g.length) (hw : ∀ x ∈ w, 0 ≤ x ∧ x < g.length) (hm : ∀ x, x ∈ S ↔ x ∈ w) (hs : S.Pairwise (· ≤ ·)) :
    ((nearK g sh w e w.length).2 < 0 → bstK g sh e S S.length = []) ∧ ∀ p : Nat, (nearK g sh w e w.length).2 = (p : Int) → p < w.length ∧ bstK g sh e S S.length = firstF g sh e (atI w p).toNat ∧ 0 ≤ farI g sh e (atI w p) := by
  have hS : ∀ x ∈ S, 0 ≤ x ∧ x < g.length := fun x hx => hw x ((hm x).1 hx)
  rcases bstK_ok (sh := sh) hg he hS S.length (Nat.le_refl _) with ⟨b1, b2⟩ | ⟨q, hq, b1, b2, b3⟩
  · rcases nearK_tie g sh w e w.length with ⟨n1, _⟩ | ⟨p, hp, n1, n2, _⟩
    · exact ⟨fun _ => b1, fun p h => by rw [n1] at h; simp only at h; omega⟩
    · exfalso
      have hmem : atI w p ∈ S := (hm _).2 (by rw [atI_get hp]; exact List.getElem_mem hp)
      obtain ⟨j, hj, ej⟩ := List.mem_iff_getElem.1 hmem
      have := b2 j hj
      rw [atI_get hj, ej] at this
      omega
  · rcases nearK_tie g sh w e w.length with ⟨n1, n2⟩ | ⟨p, hp, n1, n2, n3⟩
    · exfalso
      have hmem : atI S q ∈ w := (hm _).1 (by rw [atI_get hq]; exact List.getElem_mem hq)
      obtain ⟨j, hj, ej⟩ := List.mem_iff_getElem.1 hmem
      have := n2 j hj
      rw [atI_get hj, ej] at this
      omega
    · rw [n1]
      refine ⟨fun h => by simp only at h; omega, fun p' h => ?_⟩
      simp only at h
      have hpp : p' = p := by omega
      subst hpp
      have hmem1 : atI w p' ∈ S := (hm _).2 (by rw [atI_get hp]; exact List.getElem_mem hp)
      obtain ⟨j, hj, ej⟩ := List.mem_iff_getElem.1 hmem1
      have hmem2 : atI S q ∈ w := (hm _).1 (by rw [atI_get hq]; exact List.getElem_mem hq)
      obtain ⟨i, hi, ei⟩ := List.mem_iff_getElem.1 hmem2
      have h1 := b3 j hj
      have h2 := n3 i hi
      rw [atI_get hj, ej] at h1
      rw [atI_get hi, ei] at h2
      have heq : atI S q = atI w p' := by
        rcases h1 with h1 | h1 | ⟨h1, h1'⟩
        · omega
        · rcases h2 with h2 | h2 | h2 <;> omega
        · rcases h2 with h2 | h2 | ⟨h2, h2'⟩
          · omega
          · omega
          · have h3 : atI S q ≤ S[j] := by
              rw [atI_get hq]
              rcases Nat.lt_or_ge q j with h4 | h4
              · exact List.pairwise_iff_getElem.1 hs q j hq hj h4
              · have : q = j := by omega
                subst this; exact Int.le_refl _
            rw [ej] at h3
            omega
      exact ⟨hp, by rw [b1, heq], n2⟩
/-- The way of the first token: the path, and the walk behind its last vertex. -/
def wayL (P w : List Int) (p : Nat) : List Int := P ++ (w.drop p ++ w.take p).drop 1
theorem wayL_length {P w : List Int} {p : Nat} (hp : p < w.length) : (wayL P w p).length = P.length + (w.length - 1) := by
  unfold wayL
  rw [List.length_append, List.length_drop, turn_len w p (by omega)]
theorem wayL_low {P w : List Int} {p j : Nat} (hj : j < P.length) : (wayL P w p)[j]? = some (atI P j) := by
  unfold wayL
  rw [List.getElem?_append_left hj, atI_get hj, List.getElem?_eq_getElem hj]
theorem wayL_high {P w : List Int} {p j : Nat} (hp : p < w.length) (hP : 0 < P.length) (hl : atI P ((P.length - 1 : Nat) : Int) = wv w p) (hj : j < w.length) : (wayL P w p)[P.length - 1 + j]? = some (wv w (p + j)) := by
  rcases Nat.eq_zero_or_pos j with rfl | h0
  · rw [Nat.add_zero, wayL_low (by omega), hl, Nat.add_zero]
  · unfold wayL
    rw [List.getElem?_append_right (by omega), List.getElem?_drop, turn_get w p _ (by omega), show 1 + (P.length - 1 + j - P.length) = j by omega]
    have hw : 0 < w.length := by omega
    rw [wv_get hw]
    have hmd := md (x := p + j) (n := w.length) (by omega)
    by_cases h1 : j < w.length - p
    · rw [if_pos h1, List.getElem?_eq_getElem (by omega)]
      congr 1
      rw [if_pos (by omega)] at hmd
      simp only [hmd]
    · rw [if_neg h1, if_pos (by omega), List.getElem?_eq_getElem (by omega)]
      congr 1
      rw [if_neg (by omega)] at hmd
      simp only [hmd, show j - (w.length - p) = p + j - w.length by omega]
/-- The move of token k to place i of its way. -/
def stepM (k : Nat) (W : List Int) (i : Nat) : MoveD := ⟨k, if i = 0 then -1 else atI W ((i - 1 : Nat) : Int), atI W i⟩
def legM (k : Nat) (W : List Int) (n : Nat) : List MoveD := (List.range n).map (stepM k W)
theorem legM_succ (k : Nat) (W : List Int) (n : Nat) : legM k W (n + 1) = legM k W n ++ [stepM k W n] := by
  unfold legM
  rw [List.range_succ, List.map_append]; rfl
theorem legM_length (k : Nat) (W : List Int) (n : Nat) : (legM k W n).length = n := by simp [legM]
def legsK (W : List Int) : Nat → List MoveD
  | 0 => []
  | k + 1 => legsK W k ++ legM k W (W.length - k)
theorem legsK_len (W : List Int) : ∀ k, (legsK W k).length ≤ W.length * k
  | 0 => Nat.zero_le _
  | k + 1 => by
    unfold legsK
    rw [List.length_append, legM_length, Nat.mul_succ]
    have := legsK_len W k
    omega
theorem leg_tok {P w : List Int} {p k : Nat} (hp : p < w.length) (hP : 0 < P.length) (hl : atI P ((P.length - 1 : Nat) : Int) = wv w p) (hk : k < w.length) : tokMoves P w p k = legM k (wayL P w p) ((wayL P w p).length - k) := by
  have hlen := wayL_length (P := P) hp
  have low : ∀ j : Nat, j < P.length → atI (wayL P w p) (j : Int) = atI P (j : Int) := fun j hj => path_at (wayL_low hj)
  have high : ∀ j : Nat, j < w.length → atI (wayL P w p) ((P.length - 1 + j : Nat) : Int) = wv w (p + j) := fun j hj => path_at (wayL_high hp hP hl hj)
  unfold tokMoves legM
  rw [hlen, show P.length + (w.length - 1) - k = 1 + ((P.length - 1) + (w.length - 1 - k)) by omega, List.range_add, List.map_append, List.range_add]
  simp only [List.map_append, List.map_map]
  have e0 : (List.range 1).map (stepM k (wayL P w p)) = [⟨k, -1, atI P 0⟩] := by
    have := low 0 hP
    simp only [List.range_one, List.map_cons, List.map_nil, stepM, if_true]
    rw [this]; rfl
  have e1 : (List.range (P.length - 1)).map (fun (i : Nat) => (⟨k, atI P i, atI P ((i + 1 : Nat) : Int)⟩ : MoveD)) = (List.range (P.length - 1)).map (stepM k (wayL P w p) ∘ fun x => 1 + x) := by
    refine List.map_congr_left fun i hi => ?_
    have hi := List.mem_range.1 hi
    simp only [Function.comp, stepM]
    rw [if_neg (by omega), show 1 + i - 1 = i by omega, show 1 + i = i + 1 by omega, low i (by omega), low (i + 1) (by omega)]
  have e2 : (List.range (w.length - 1 - k)).map (fun (i : Nat) => (⟨k, wv w (p + i), wv w (p + (i + 1))⟩ : MoveD)) = (List.range (w.length - 1 - k)).map (stepM k (wayL P w p) ∘ (fun x => 1 + x) ∘ fun x => P.length - 1 + x) := by
    refine List.map_congr_left fun i hi => ?_
    have hi := List.mem_range.1 hi
    simp only [Function.comp, stepM]
    rw [if_neg (by omega), show 1 + (P.length - 1 + i) - 1 = P.length - 1 + i by omega, show 1 + (P.length - 1 + i) = P.length - 1 + (i + 1) by omega, high i (by omega), high (i + 1) (by omega)]
  rw [e0, e1, e2]
  rfl
theorem legs_fill {P w : List Int} {p : Nat} (hp : p < w.length) (hP : 0 < P.length) (hl : atI P ((P.length - 1 : Nat) : Int) = wv w p) : ∀ k, k ≤ w.length → legsK (wayL P w p) k = fillK P w p k
  | 0, _ => rfl
  | k + 1, hk => by
    unfold legsK fillK
    rw [legs_fill hp hP hl k (by omega), leg_tok hp hP hl (by omega)]
end Go.Proofs.Ytfgpenekmokdiaa.Fl
namespace Go.Proofs.Ytfgpenekmokdiaa
open Go Go.RowKit Fl

theorem own_num {w : World} {base n g cap : Nat} {L : List Int} (h : w.ownsRow base 3 1 (.slice (some ⟨g, 0, none⟩) n cap) n (L.map Iv)) (i : Nat) (hi : i < L.length) : w.cell? ⟨g, i, none⟩ = some (.int .i64 L[i]) ∧ w.frozen? ⟨g, i, none⟩ = false :=
  own_get h (by simp [hi])
theorem own_num_set {w : World} {base n g cap : Nat} {L : List Int} (h : w.ownsRow base 3 1 (.slice (some ⟨g, 0, none⟩) n cap) n (L.map Iv)) (i : Nat) (z : Int) : (w.setCell ⟨g, i, none⟩ (.int .i64 z)).ownsRow base 3 1 (.slice (some ⟨g, 0, none⟩) n cap) n ((L.set i z).map Iv) := by
  rw [List.map_set]; exact own_put h
theorem distK_step {g : GraphD} {s : List Bool} {out : List Int} {d : Nat} (h : 1 ≤ d) : distK g s out d = distR g s (d : Int) (distK g s out (d - 1)) g.length := by
  obtain ⟨k, rfl⟩ : ∃ k, d = k + 1 := ⟨d - 1, by omega⟩
  rw [distK_succ]; rfl
theorem distV_stay {g : GraphD} {s : List Bool} {d : Int} {out : List Int} {v : Nat} (h : atB s v = true ∨ 0 ≤ out.getD v (-1)) : distV g s d out v = out := by
  unfold distV
  rw [if_pos]
  rcases h with h | h
  · rw [h]; rfl
  · rw [decide_eq_true h, Bool.or_true]
/-- The list behind the first m elements of vertex v's row. -/
def curV (r out : List Int) (d : Int) (v m : Nat) : List Int := if (r.take m).any (fun x => decide (atI out x = d - 1)) then out.set v d else out
theorem curV_zero (r out : List Int) (d : Int) (v : Nat) : curV r out d v 0 = out := rfl
theorem curV_succ {r out : List Int} {d : Int} {v m : Nat} (h : m < r.length) : curV r out d v (m + 1) = if atI out r[m] = d - 1 then out.set v d else curV r out d v m := by
  unfold curV
  rw [List.take_succ_eq_append_getElem h, List.any_append]
  by_cases e : atI out r[m] = d - 1
  · simp [e]
  · simp [e]
theorem curV_all {g : GraphD} {s : List Bool} {d : Int} {out r : List Int} {v m : Nat} (h1 : atB s v = false) (h2 : out.getD v (-1) < 0) (hr : r = rowG g v) (hm : r.length ≤ m) : curV r out d v m = distV g s d out v := by
  unfold curV distV
  rw [List.take_of_length_le hm, ← hr, h1, if_neg (c := (false || decide (0 ≤ out.getD v (-1))) = true) (by rw [Bool.false_or, decide_eq_true_eq]; omega)]
theorem curV_length (r out : List Int) (d : Int) (v m : Nat) : (curV r out d v m).length = out.length := by unfold curV; split <;> simp
theorem curV_get {r out : List Int} {d : Int} {v m u : Nat} (h : u ≠ v) : (curV r out d v m)[u]? = out[u]? := by
  unfold curV
  split
  · rw [List.getElem?_set, if_neg (fun e => h e.symm)]
  · rfl
/-- A list of k times -1 and any further numbers. -/
def negs (L : List Int) (k : Nat) : Prop := ∀ j, j < k → L[j]? = some (-1)
theorem negs_all {L : List Int} (h : negs L L.length) : L = List.replicate L.length (-1) := by
  apply List.ext_getElem (by simp)
  intro i h1 h2
  have := h i h1
  rw [List.getElem?_eq_getElem h1] at this
  simp at this
  simpa using this
set_option maxRecDepth 100000 in
set_option maxHeartbeats 4000000 in
theorem dist_c (A B : Option Addr) (c d : Nat) (g : GraphD) (s : List Bool) (goal : Nat) (w : World) (hh : RowsAt w A g) (hs : Holds w B (s.map Bo)) (hg : validG g = true) (hsl : s.length = g.length) (hgoal : goal < g.length) :
    Calls Try.prog 45 #[.slice A g.length c, .slice B s.length d, .int .i64 goal] w fun e w' => ∃ v, e = .returned v ∧ w'.ownsRow w.heap.size 3 1 v g.length ((distF g s goal).map Iv) ∧ Below w.heap.size w w' := by
  have HH := Lib.hid hh
  have HS := Lib.hid hs
  have HG := Lib.hid hg
  have hl24 := validG_len hg
  have HR := Lib.hid (validG_short hg)
  have HSL := Lib.hid hsl
  have hsl2 : goal < s.length := by omega
  clear hh hs hg hsl
  go_enter Try.func45, Try.ntmps45
  go_wp2_with (refine make_any _ rfl _ _ 23 3 (.int .i64 0) 8 Try.underlying23 Try.infoIntG rfl (by decide) rfl .i64 .i64 _ _ g.length rfl rfl rfl rfl (by omega) ?_)
  intro w1 own1 hb1
  have hbb1 := hb1.size
  have HO1 : Hid (w1.ownsRow w.heap.size 3 1 (.slice (some ⟨w.heap.size, 0, none⟩) g.length g.length) g.length ((List.replicate g.length (0 : Int)).map Iv)) := Lib.hid (by rw [List.map_replicate]; exact own1)
  obtain ⟨G, hG⟩ : ∃ G, G = w.heap.size := ⟨_, rfl⟩
  rw [← hG] at HO1 hb1 hbb1 ⊢
  have HGG := Lib.hid hG
  clear own1 hG
  go_wp2
  go_loopw [8] (fun v wr => ∃ (k : Nat) (L : List Int), v = .int .i64 k ∧ k ≤ g.length ∧ L.length = g.length ∧ Hid (negs L k) ∧ Hid (wr.ownsRow G 3 1 (.slice (some ⟨G, 0, none⟩) g.length g.length) g.length (L.map Iv)) ∧ Below G w wr) (fun v _ => g.length - (intOf v).toNat)
  case atStart => exact ⟨0, _, rfl, Nat.zero_le _, by simp, Lib.hid (fun j hj => by omega), HO1, hb1⟩
  case round =>
    clear HO1 hb1 hbb1
    obtain ⟨k, L, rfl, hk, hL, HN, HO, hb⟩ := hrel
    by_cases hlt : k < g.length
    · obtain ⟨hc1, hc2⟩ := own_num HO.out k (by omega)
      go_wp2
      go_roundw
      case rel => exact ⟨k + 1, L.set k (-1), by go_num, by omega, by simpa using hL, Lib.hid (fun j hj => by
        rw [List.getElem?_set]
        by_cases e : k = j
        · subst e; simp; omega
        · rw [if_neg e]; exact HN.out j (by omega)), Lib.hid (own_num_set HO.out k (-1)), below_put hb (Nat.le_refl _)⟩
      case measure => simp [intOf]; omega
    · obtain ⟨bs, os, rfl, hsc⟩ := HS.out.bo hsl2
      have hbs : bs < w.heap.size := World.block_lt_of_cell? _ _ hsc
      have hscr : wr.cell? ⟨bs, os + goal, none⟩ = some (.bool s[goal]) := (hb.cell (p := ⟨bs, os + goal, none⟩) (by have := HGG.out; show bs < G; omega)).trans hsc
      have HL : Hid (L = List.replicate g.length (-1)) := Lib.hid (by
        have h := negs_all (L := L) (fun j hj => HN.out j (by omega))
        rw [hL] at h; exact h)
      have hat : atB s goal = s[goal] := by unfold atB; rw [List.getD_eq_getElem?_getD, List.getElem?_eq_getElem hsl2]; rfl
      rcases hsg : s[goal] with _ | _
      · rw [hsg] at hat hscr hsc
        have HF : Hid (distF g s goal = distK g s ((List.replicate g.length (-1)).set goal 0) (g.length - 1)) := Lib.hid (by unfold distF; rw [hat]; rfl)
        obtain ⟨hc1, hc2⟩ := own_num HO.out goal (by omega)
        have HO2 : Hid ((wr.setCell ⟨G, goal, none⟩ (.int .i64 0)).ownsRow G 3 1 (.slice (some ⟨G, 0, none⟩) g.length g.length) g.length ((distK g s ((List.replicate g.length (-1)).set goal 0) (1 - 1)).map Iv)) := Lib.hid (by rw [← HL.out]; exact own_num_set HO.out goal 0)
        have hb2 := below_put (i := goal) (v := .int .i64 0) hb (Nat.le_refl _)
        clear hat hsg hsc HN
        go_wp2
        clear hscr hc1 hc2
        have HIN := Lib.hid (show ∀ k, (distK g s ((List.replicate g.length (-1)).set goal 0) k).length = g.length from fun k => by rw [distK_length]; simp)
        generalize (List.replicate g.length (-1)).set goal 0 = init at *
        go_loopw [9] (fun v wr => ∃ (dd : Nat), v = .int .i64 dd ∧ 1 ≤ dd ∧ dd ≤ g.length ∧ Hid (wr.ownsRow G 3 1 (.slice (some ⟨G, 0, none⟩) g.length g.length) g.length ((distK g s init (dd - 1)).map Iv)) ∧ Below G w wr) (fun v _ => g.length - (intOf v).toNat)
        case atStart => exact ⟨1, rfl, by omega, by omega, HO2, hb2⟩
        case round =>
          clear HO2 hb2 hb HO
          obtain ⟨dd, rfl, hd1, hdn, HO, hb⟩ := hrel
          by_cases hdlt : dd < g.length
          · have HSt := Lib.hid (distK_step (g := g) (s := s) (out := init) hd1)
            have hol := HIN.out (dd - 1)
            generalize distK g s init (dd - 1) = out0 at *
            go_wp2
            go_loopw [10] (fun v wr => ∃ (u : Nat), v = .int .i64 u ∧ u ≤ g.length ∧ Hid (wr.ownsRow G 3 1 (.slice (some ⟨G, 0, none⟩) g.length g.length) g.length ((distR g s dd out0 u).map Iv)) ∧ Below G w wr) (fun v _ => g.length - (intOf v).toNat)
            case atStart => exact ⟨0, rfl, Nat.zero_le _, HO, hb⟩
            case round =>
              clear HO hb
              obtain ⟨u, rfl, hu, HO, hb⟩ := hrel
              by_cases hult : u < g.length
              · have hsu : u < s.length := by have := HSL.out; omega
                obtain ⟨bs, os, hBeq, hsc⟩ := HS.out.bo hsu
                injection hBeq with hBeq
                injection hBeq with hB1 hB2
                subst hB1 hB2
                have hbs : bs < w.heap.size := World.block_lt_of_cell? _ _ hsc
                have hscr : wr.cell? ⟨bs, os + u, none⟩ = some (.bool s[u]) := (hb.cell (p := ⟨bs, os + u, none⟩) (by have := HGG.out; show bs < G; omega)).trans hsc
                have hat : atB s u = s[u] := by unfold atB; rw [List.getD_eq_getElem?_getD, List.getElem?_eq_getElem hsu]; rfl
                have HSR := Lib.hid (distR_succ g s dd out0 u)
                have hrl := distR_length g s dd out0 u
                generalize distR g s dd out0 u = out at *
                have hou : u < out.length := by omega
                obtain ⟨hc1, hc2⟩ := own_num HO.out u hou
                have hgd : out.getD u (-1) = out[u] := by rw [List.getD_eq_getElem?_getD, List.getElem?_eq_getElem hou]; rfl
                clear hsc
                by_cases hstay : s[u] = true ∨ 0 ≤ out[u]
                · have HE : Hid (distR g s dd out0 (u + 1) = out) := Lib.hid (by rw [HSR.out, distV_stay (by rw [hat, hgd]; exact hstay)])
                  have hcase : s[u] = true ∨ s[u] = false ∧ decide (0 ≤ out[u]) = true := by
                    rcases hstay with h | h
                    · exact .inl h
                    · rcases hh : s[u] with _ | _
                      · exact .inr ⟨rfl, by simpa using h⟩
                      · exact .inl rfl
                  clear hat hgd hstay HSR
                  generalize s[u] = su at *
                  generalize out[u] = ou at *
                  rcases hcase with rfl | ⟨rfl, hge⟩
                  all_goals
                    go_wp2
                    go_roundw
                    case rel => exact ⟨u + 1, by go_num, by omega, Lib.hid (by rw [HE.out]; exact HO.out), hb⟩
                    case measure => simp [intOf]; omega
                · have hsf : s[u] = false := by rcases hh : s[u] with _ | _; rfl; exact absurd (.inl hh) hstay
                  have hneg : out[u] < 0 := by rcases Int.lt_or_le out[u] 0 with h | h; exact h; exact absurd (.inr h) hstay
                  have hdec : decide (0 ≤ out[u]) = false := by simp; omega
                  rw [hsf] at hscr hat
                  rw [← hgd] at hneg
                  have HCA := Lib.hid (fun (r : List Int) (m : Nat) (hr : r = rowG g u) (hm : r.length ≤ m) => curV_all (d := dd) hat hneg hr hm)
                  obtain ⟨bg, og, A1, c1, rfl, e1, h1⟩ := HH.out.one hult
                  have hbg : bg < w.heap.size := World.block_lt_of_cell? _ _ e1
                  have e1r : ∀ W, Below G w W → W.cell? ⟨bg, og + u, none⟩ = some (.slice A1 g[u].length c1) := fun W hW => (hW.cell (p := ⟨bg, og + u, none⟩) (by have := HGG.out; show bg < G; omega)).trans e1
                  have hrow : g[u] = rowG g u := by unfold rowG; rw [List.getD_eq_getElem?_getD, List.getElem?_eq_getElem hult]; rfl
                  have HRow := Lib.hid hrow
                  have hrl24 := HR.out _ (List.getElem_mem hult)
                  have HXX := Lib.hid (validG_row HG.out hult)
                  have H1 := Lib.hid h1
                  have HE1 := Lib.hid e1r
                  clear hat hneg hgd hsf hstay hrow h1 e1 e1r
                  generalize out[u] = ou at *
                  generalize g[u] = r at *
                  go_wp2
                  go_loopw [11] (fun v wr => ∃ (m : Nat), v = .int .i64 m ∧ m ≤ r.length ∧ Hid (wr.ownsRow G 3 1 (.slice (some ⟨G, 0, none⟩) g.length g.length) g.length ((curV r out dd u m).map Iv)) ∧ Below G w wr) (fun v _ => r.length - (intOf v).toNat)
                  case atStart => exact ⟨0, rfl, Nat.zero_le _, HO, hb⟩
                  case round =>
                    clear HO hb hscr hc1 hc2 hdec
                    obtain ⟨m, rfl, hm, HO, hb⟩ := hrel
                    have e1 := HE1.out wr hb
                    by_cases hmlt : m < r.length
                    · obtain ⟨br, or_, rfl, e2⟩ := H1.out.iv hmlt
                      have hbr : br < w.heap.size := World.block_lt_of_cell? _ _ e2
                      have e2r : wr.cell? ⟨br, or_ + m, none⟩ = some (.int .i64 r[m]) := (hb.cell (p := ⟨br, or_ + m, none⟩) (by have := HGG.out; show br < G; omega)).trans e2
                      obtain ⟨x0, x1, x2⟩ := HXX.out r[m] (List.getElem_mem hmlt)
                      have HCS := Lib.hid (curV_succ (out := out) (d := dd) (v := u) hmlt)
                      clear e2
                      generalize r[m] = x at *
                      obtain ⟨y, rfl⟩ := Int.eq_ofNat_of_zero_le x0
                      have hyn : y < out.length := by omega
                      have hyu : y ≠ u := by omega
                      have hget := curV_get (r := r) (out := out) (d := dd) (m := m) hyu
                      rw [List.getElem?_eq_getElem hyn] at hget
                      obtain ⟨hc1, _⟩ := own_get HO.out (i := y) (u := .int .i64 out[y]) (by rw [List.getElem?_map, hget]; rfl)
                      have hcl := curV_length r out dd u m
                      obtain ⟨hc3, hc4⟩ := own_num HO.out u (by omega)
                      have hat2 : atI out (y : Int) = out[y] := by unfold atI; rw [Int.toNat_natCast, List.getD_eq_getElem?_getD, List.getElem?_eq_getElem hyn]; rfl
                      rw [hat2] at HCS
                      clear x0 x1 x2 hat2 hget
                      have hyn' : (y : Int) < g.length := by omega
                      by_cases heq : out[y] = (dd : Int) - 1
                      · have hbq : (out[y] == (dd : Int) - 1) = true := by simpa using heq
                        rw [if_pos heq] at HCS
                        have HSet : Hid (curV r out dd u (m + 1) = (curV r out dd u m).set u dd) := Lib.hid (by
                          rw [HCS.out]
                          unfold curV
                          split
                          · rw [List.set_set]
                          · rfl)
                        clear heq HCS
                        generalize out[y] = oy at *
                        generalize (curV r out dd u m)[u] = cu at *
                        go_wp2
                        go_roundw
                        case rel => exact ⟨m + 1, by go_num, by omega, Lib.hid (by rw [HSet.out]; exact own_num_set HO.out u dd), below_put hb (Nat.le_refl _)⟩
                        case measure => simp [intOf]; omega
                      · have hbq : (out[y] == (dd : Int) - 1) = false := by simpa using heq
                        rw [if_neg heq] at HCS
                        clear heq
                        generalize out[y] = oy at *
                        go_wp2
                        go_roundw
                        case rel => exact ⟨m + 1, by go_num, by omega, Lib.hid (by rw [HCS.out]; exact HO.out), hb⟩
                        case measure => simp [intOf]; omega
                    · have HE : Hid (distR g s dd out0 (u + 1) = curV r out dd u m) := Lib.hid (by rw [HSR.out, HCA.out r m HRow.out (by omega)])
                      go_wp2
                      go_roundw
                      case rel => exact ⟨u + 1, by go_num, by omega, Lib.hid (by rw [HE.out]; exact HO.out), hb⟩
                      case measure => simp [intOf]; omega
              · have HE : Hid (distR g s dd out0 u = distK g s init dd) := Lib.hid (by rw [HSt.out, show u = g.length by omega])
                go_wp2
                go_roundw
                case rel => exact ⟨dd + 1, by go_num, by omega, by omega, Lib.hid (by rw [Nat.add_sub_cancel, ← HE.out]; exact HO.out), hb⟩
                case measure => simp [intOf]; omega
          · have HE : Hid (distK g s init (dd - 1) = distF g s goal) := Lib.hid (by rw [HF.out, show dd = g.length by omega])
            go_wp2
            go_ret
            exact ⟨_, rfl, by rw [← HE.out, ← HGG.out]; exact HO.out, by rw [← HGG.out]; exact hb⟩
      · rw [hsg] at hat hscr hsc
        have HF : Hid (distF g s goal = L) := Lib.hid (by rw [distF_shut hat, HL.out])
        clear hat hsg hsc HN
        go_wp2
        go_ret
        exact ⟨_, rfl, by rw [HF.out, ← HGG.out]; exact HO.out, by rw [← HGG.out]; exact hb⟩
end Go.Proofs.Ytfgpenekmokdiaa
