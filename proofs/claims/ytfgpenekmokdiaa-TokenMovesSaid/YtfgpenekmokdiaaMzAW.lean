/- Joined texts. -/
import Derived.Test.YtfgpenekmokdiaaMzAH
import Derived.Test.YtfgpenekmokdiaaMzAG
import Derived.Test.YtfgpenekmokdiaaMzAR
import Derived.Test.YtfgpenekmokdiaaMzAO
import Derived.Deep.AppendLies
import Derived.Deep.RegionLaw
namespace Go.Proofs.Ytfgpenekmokdiaa.Fl

/-- How far a vertex is from the entrance. -/
def farI (g : GraphD) (sh : List Bool) (e : Nat) (x : Int) : Int := dAt (distF g sh x.toNat) e
theorem first_len {g : GraphD} {sh : List Bool} {e : Nat} {x : Int} (hg : validG g = true) (he : e < g.length) (hx : 0 ≤ x ∧ x < g.length) : (farI g sh e x < 0 → firstF g sh e x.toNat = []) ∧ (0 ≤ farI g sh e x → ((firstF g sh e x.toNat).length : Int) = farI g sh e x + 1) := by
  have hxg : x.toNat < g.length := by omega
  unfold farI
  rcases first_cases (s := sh) hg he hxg with ⟨h1, h2⟩ | h
  · exact ⟨fun _ => h1, fun h3 => by omega⟩
  · have := h.pos
    have := h.dist
    exact ⟨fun h3 => by omega, fun _ => by omega⟩
theorem nearK_tie (g : GraphD) (sh : List Bool) (w : List Int) (e : Nat) : ∀ k, (nearK g sh w e k = (-1, -1) ∧ ∀ j, j < k → farI g sh e (atI w j) < 0) ∨
    ∃ p, p < k ∧ nearK g sh w e k = (farI g sh e (atI w p), (p : Int)) ∧ 0 ≤ farI g sh e (atI w p) ∧ ∀ j, j < k → farI g sh e (atI w j) < 0 ∨ farI g sh e (atI w p) < farI g sh e (atI w j) ∨ farI g sh e (atI w p) = farI g sh e (atI w j) ∧ atI w p ≤ atI w j
  | 0 => .inl ⟨rfl, fun j h => by omega⟩
  | k + 1 => by
    have ih := nearK_tie g sh w e k
    unfold nearK
    simp only
    have hD : dAt (distF g sh (atI w k).toNat) e = farI g sh e (atI w k) := rfl
    rw [hD]
    generalize hdd : (fun j : Nat => farI g sh e (atI w j)) = D at *
    have hD : ∀ j : Nat, farI g sh e (atI w j) = D j := fun j => by rw [← hdd]
    simp only [hD] at ih ⊢
    rcases ih with ⟨h1, h2⟩ | ⟨p, hp, h1, h2, h3⟩
    · rw [h1]
      simp only
      by_cases h : 0 ≤ D k
      · rw [if_pos ⟨h, .inl (by omega)⟩]
        refine .inr ⟨k, by omega, rfl, h, fun j hj => ?_⟩
        rcases Nat.lt_succ_iff_lt_or_eq.1 hj with h3 | rfl
        · exact .inl (h2 j h3)
        · exact .inr (.inr ⟨rfl, Int.le_refl _⟩)
      · rw [if_neg (fun h' => h h'.1)]
        refine .inl ⟨rfl, fun j hj => ?_⟩
        rcases Nat.lt_succ_iff_lt_or_eq.1 hj with h3 | rfl
        · exact h2 j h3
        · omega
    · rw [h1]
      simp only
      by_cases h : 0 ≤ D k ∧ (D p < 0 ∨ D k < D p ∨ D k = D p ∧ atI w k < atI w p)
      · rw [if_pos h]
        refine .inr ⟨k, by omega, rfl, h.1, fun j hj => ?_⟩
        rcases Nat.lt_succ_iff_lt_or_eq.1 hj with h4 | rfl
        · have hh := h.2
          rcases h3 j h4 with h5 | h5 | ⟨h5, h6⟩
          · exact .inl h5
          · right
            rcases hh with h7 | h7 | h7
            · omega
            · left; omega
            · left; omega
          · right
            rcases hh with h7 | h7 | h7
            · omega
            · left; omega
            · right; exact ⟨by omega, by omega⟩
        · exact .inr (.inr ⟨rfl, Int.le_refl _⟩)
      · rw [if_neg h]
        refine .inr ⟨p, by omega, rfl, h2, fun j hj => ?_⟩
        rcases Nat.lt_succ_iff_lt_or_eq.1 hj with h4 | rfl
        · exact h3 j h4
        · by_cases h5 : 0 ≤ D j
          · right
            have h6 : ¬ (D p < 0 ∨ D j < D p ∨ D j = D p ∧ atI w j < atI w p) := fun h6 => h ⟨h5, h6⟩
            omega
          · left; omega
/-- The shortest path to one of the first k goals, the first one of equal ones. -/
def bstK (g : GraphD) (sh : List Bool) (e : Nat) (S : List Int) : Nat → List Int
  | 0 => []
  | k + 1 => if 0 < (firstF g sh e (atI S k).toNat).length ∧ ((bstK g sh e S k).length = 0 ∨ (firstF g sh e (atI S k).toNat).length < (bstK g sh e S k).length) then firstF g sh e (atI S k).toNat else bstK g sh e S k
theorem bstK_ok {g : GraphD} {sh : List Bool} {e : Nat} {S : List Int} (hg : validG g = true) (he : e < g.length) (hS : ∀ x ∈ S, 0 ≤ x ∧ x < g.length) : ∀ k, k ≤ S.length → (bstK g sh e S k = [] ∧ ∀ j, j < k → farI g sh e (atI S j) < 0) ∨
    ∃ q, q < k ∧ bstK g sh e S k = firstF g sh e (atI S q).toNat ∧ 0 ≤ farI g sh e (atI S q) ∧ ∀ j, j < k → farI g sh e (atI S j) < 0 ∨ farI g sh e (atI S q) < farI g sh e (atI S j) ∨ farI g sh e (atI S q) = farI g sh e (atI S j) ∧ q ≤ j
  | 0, _ => .inl ⟨rfl, fun j h => by omega⟩
  | k + 1, hk => by
    have ih := bstK_ok (sh := sh) hg he hS k (by omega)
    have hx : 0 ≤ atI S k ∧ atI S k < g.length := by rw [atI_get hk]; exact hS _ (List.getElem_mem hk)
    obtain ⟨l1, l2⟩ := first_len (sh := sh) hg he hx
    unfold bstK
    rcases ih with ⟨h1, h2⟩ | ⟨q, hq, h1, h2, h3⟩
    · rw [h1]
      by_cases h : 0 ≤ farI g sh e (atI S k)
      · have := l2 h
        rw [if_pos ⟨by omega, .inl rfl⟩]
        refine .inr ⟨k, by omega, rfl, h, fun j hj => ?_⟩
        rcases Nat.lt_succ_iff_lt_or_eq.1 hj with h3 | rfl
        · exact .inl (h2 j h3)
        · exact .inr (.inr ⟨rfl, Nat.le_refl _⟩)
      · have := l1 (by omega)
        rw [if_neg (fun h' => by rw [this] at h'; simp at h')]
        refine .inl ⟨rfl, fun j hj => ?_⟩
        rcases Nat.lt_succ_iff_lt_or_eq.1 hj with h3 | rfl
        · exact h2 j h3
        · omega
    · have hqS : q < S.length := by omega
      have hxq : 0 ≤ atI S q ∧ atI S q < g.length := by rw [atI_get hqS]; exact hS _ (List.getElem_mem hqS)
      have l3 := (first_len (sh := sh) hg he hxq).2 h2
      rw [h1]
      by_cases h : 0 ≤ farI g sh e (atI S k) ∧ farI g sh e (atI S k) < farI g sh e (atI S q)
      · have := l2 h.1
        rw [if_pos ⟨by omega, .inr (by omega)⟩]
        refine .inr ⟨k, by omega, rfl, h.1, fun j hj => ?_⟩
        rcases Nat.lt_succ_iff_lt_or_eq.1 hj with h4 | rfl
        · rcases h3 j h4 with h5 | h5 | h5
          · exact .inl h5
          · right; left; omega
          · right; left; omega
        · exact .inr (.inr ⟨rfl, Nat.le_refl _⟩)
      · rw [if_neg (fun h' => by
          obtain ⟨h5, h6⟩ := h'
          by_cases h7 : 0 ≤ farI g sh e (atI S k)
          · have := l2 h7
            rcases h6 with h6 | h6
            · omega
            · exact h ⟨h7, by omega⟩
          · rw [l1 (by omega)] at h5; simp at h5)]
        refine .inr ⟨q, by omega, rfl, h2, fun j hj => ?_⟩
        rcases Nat.lt_succ_iff_lt_or_eq.1 hj with h4 | rfl
        · exact h3 j h4
        · by_cases h7 : 0 ≤ farI g sh e (atI S j)
          · right
            have h8 : ¬ farI g sh e (atI S j) < farI g sh e (atI S q) := fun h8 => h ⟨h7, h8⟩
            rcases Int.lt_or_le (farI g sh e (atI S q)) (farI g sh e (atI S j)) with h9 | h9
            · exact .inl h9
            · exact .inr ⟨by omega, by omega⟩
          · left; omega
/-- Over the sorted walk the shortest path leads to the nearest vertex. -/
theorem best_near {g : GraphD} {sh : List Bool} {e : Nat} {w S : List Int} (hg : validG g = true) (he : e < g.length) (hw : ∀ x ∈ w, 0 ≤ x ∧ x < g.length) (hm : ∀ x, x ∈ S ↔ x ∈ w) (hs : S.Pairwise (· ≤ ·)) :
    ((nearK g sh w e w.length).2 < 0 → bstK g sh e S S.length = []) ∧ ∀ p : Nat, (nearK g sh w e w.length).2 = (p : Int) → p < w.length ∧ bstK g sh e S S.length = firstF g sh e (atI w p).toNat ∧ 0 ≤ farI g sh e (atI w p) := by
  have hS : ∀ x ∈ S, 0 ≤ x ∧ x < g.length := fun x hx => hw x ((hm x).1 hx)
  rcases bstK_ok (sh := sh) hg he hS S.length (Nat.le_refl _) with ⟨b1, b2⟩ | ⟨q, hq, b1, b2, b3⟩
  · rcases nearK_tie g sh w e w.length with ⟨n1, _⟩ | ⟨p, hp, n1, n2, _⟩
    · exact ⟨fun _ => b1, fun p h => by rw [n1] at h; simp only at h; omega⟩
    · exfalso
      have hmem : atI w p ∈ S := (hm _).2 (by rw [atI_get hp]; exact List.getElem_mem hp)
      obtain ⟨j, hj, ej⟩ := List.mem_iff_getElem.1 hmem
      have := b2 j hj
      rw [atI_get hj, ej] at this
      omega
  · rcases nearK_tie g sh w e w.length with ⟨n1, n2⟩ | ⟨p, hp, n1, n2, n3⟩
    · exfalso
      have hmem : atI S q ∈ w := (hm _).1 (by rw [atI_get hq]; exact List.getElem_mem hq)
      obtain ⟨j, hj, ej⟩ := List.mem_iff_getElem.1 hmem
      have := n2 j hj
      rw [atI_get hj, ej] at this
      omega
    · rw [n1]
      refine ⟨fun h => by simp only at h; omega, fun p' h => ?_⟩
      simp only at h
      have hpp : p' = p := by omega
      subst hpp
      have hmem1 : atI w p' ∈ S := (hm _).2 (by rw [atI_get hp]; exact List.getElem_mem hp)
      obtain ⟨j, hj, ej⟩ := List.mem_iff_getElem.1 hmem1
      have hmem2 : atI S q ∈ w := (hm _).1 (by rw [atI_get hq]; exact List.getElem_mem hq)
      obtain ⟨i, hi, ei⟩ := List.mem_iff_getElem.1 hmem2
      have h1 := b3 j hj
      have h2 := n3 i hi
      rw [atI_get hj, ej] at h1
      rw [atI_get hi, ei] at h2
      have heq : atI S q = atI w p' := by
        rcases h1 with h1 | h1 | ⟨h1, h1'⟩
        · omega
        · rcases h2 with h2 | h2 | h2 <;> omega
        · rcases h2 with h2 | h2 | ⟨h2, h2'⟩
          · omega
          · omega
          · have h3 : atI S q ≤ S[j] := by
              rw [atI_get hq]
              rcases Nat.lt_or_ge q j with h4 | h4
              · exact List.pairwise_iff_getElem.1 hs q j hq hj h4
              · have : q = j := by omega
                subst this; exact Int.le_refl _
            rw [ej] at h3
            omega
      exact ⟨hp, by rw [b1, heq], n2⟩
/-- The way of the first token: the path, and the walk behind its last vertex. -/
def wayL (P w : List Int) (p : Nat) : List Int := P ++ (w.drop p ++ w.take p).drop 1
theorem wayL_length {P w : List Int} {p : Nat} (hp : p < w.length) : (wayL P w p).length = P.length + (w.length - 1) := by
  unfold wayL
  rw [List.length_append, List.length_drop, turn_len w p (by omega)]
theorem wayL_low {P w : List Int} {p j : Nat} (hj : j < P.length) : (wayL P w p)[j]? = some (atI P j) := by
  unfold wayL
  rw [List.getElem?_append_left hj, atI_get hj, List.getElem?_eq_getElem hj]
theorem wayL_high {P w : List Int} {p j : Nat} (hp : p < w.length) (hP : 0 < P.length) (hl : atI P ((P.length - 1 : Nat) : Int) = wv w p) (hj : j < w.length) : (wayL P w p)[P.length - 1 + j]? = some (wv w (p + j)) := by
  rcases Nat.eq_zero_or_pos j with rfl | h0
  · rw [Nat.add_zero, wayL_low (by omega), hl, Nat.add_zero]
  · unfold wayL
    rw [List.getElem?_append_right (by omega), List.getElem?_drop, turn_get w p _ (by omega), show 1 + (P.length - 1 + j - P.length) = j by omega]
    have hw : 0 < w.length := by omega
    rw [wv_get hw]
    have hmd := md (x := p + j) (n := w.length) (by omega)
    by_cases h1 : j < w.length - p
    · rw [if_pos h1, List.getElem?_eq_getElem (by omega)]
      congr 1
      rw [if_pos (by omega)] at hmd
      simp only [hmd]
    · rw [if_neg h1, if_pos (by omega), List.getElem?_eq_getElem (by omega)]
      congr 1
      rw [if_neg (by omega)] at hmd
      simp only [hmd, show j - (w.length - p) = p + j - w.length by omega]
/-- The move of token k to place i of its way. -/
def stepM (k : Nat) (W : List Int) (i : Nat) : MoveD := ⟨k, if i = 0 then -1 else atI W ((i - 1 : Nat) : Int), atI W i⟩
def legM (k : Nat) (W : List Int) (n : Nat) : List MoveD := (List.range n).map (stepM k W)
theorem legM_succ (k : Nat) (W : List Int) (n : Nat) : legM k W (n + 1) = legM k W n ++ [stepM k W n] := by
  unfold legM
  rw [List.range_succ, List.map_append]; rfl
theorem legM_length (k : Nat) (W : List Int) (n : Nat) : (legM k W n).length = n := by simp [legM]
def legsK (W : List Int) : Nat → List MoveD
  | 0 => []
  | k + 1 => legsK W k ++ legM k W (W.length - k)
theorem legsK_len (W : List Int) : ∀ k, (legsK W k).length ≤ W.length * k
  | 0 => Nat.zero_le _
  | k + 1 => by
    unfold legsK
    rw [List.length_append, legM_length, Nat.mul_succ]
    have := legsK_len W k
    omega
theorem leg_tok {P w : List Int} {p k : Nat} (hp : p < w.length) (hP : 0 < P.length) (hl : atI P ((P.length - 1 : Nat) : Int) = wv w p) (hk : k < w.length) : tokMoves P w p k = legM k (wayL P w p) ((wayL P w p).length - k) := by
  have hlen := wayL_length (P := P) hp
  have low : ∀ j : Nat, j < P.length → atI (wayL P w p) (j : Int) = atI P (j : Int) := fun j hj => path_at (wayL_low hj)
  have high : ∀ j : Nat, j < w.length → atI (wayL P w p) ((P.length - 1 + j : Nat) : Int) = wv w (p + j) := fun j hj => path_at (wayL_high hp hP hl hj)
  unfold tokMoves legM
  rw [hlen, show P.length + (w.length - 1) - k = 1 + ((P.length - 1) + (w.length - 1 - k)) by omega, List.range_add, List.map_append, List.range_add]
  simp only [List.map_append, List.map_map]
  have e0 : (List.range 1).map (stepM k (wayL P w p)) = [⟨k, -1, atI P 0⟩] := by
    have := low 0 hP
    simp only [List.range_one, List.map_cons, List.map_nil, stepM, if_true]
    rw [this]; rfl
  have e1 : (List.range (P.length - 1)).map (fun (i : Nat) => (⟨k, atI P i, atI P ((i + 1 : Nat) : Int)⟩ : MoveD)) = (List.range (P.length - 1)).map (stepM k (wayL P w p) ∘ fun x => 1 + x) := by
    refine List.map_congr_left fun i hi => ?_
    have hi := List.mem_range.1 hi
    simp only [Function.comp, stepM]
    rw [if_neg (by omega), show 1 + i - 1 = i by omega, show 1 + i = i + 1 by omega, low i (by omega), low (i + 1) (by omega)]
  have e2 : (List.range (w.length - 1 - k)).map (fun (i : Nat) => (⟨k, wv w (p + i), wv w (p + (i + 1))⟩ : MoveD)) = (List.range (w.length - 1 - k)).map (stepM k (wayL P w p) ∘ (fun x => 1 + x) ∘ fun x => P.length - 1 + x) := by
    refine List.map_congr_left fun i hi => ?_
    have hi := List.mem_range.1 hi
    simp only [Function.comp, stepM]
    rw [if_neg (by omega), show 1 + (P.length - 1 + i) - 1 = P.length - 1 + i by omega, show 1 + (P.length - 1 + i) = P.length - 1 + (i + 1) by omega, high i (by omega), high (i + 1) (by omega)]
  rw [e0, e1, e2]
  rfl
theorem legs_fill {P w : List Int} {p : Nat} (hp : p < w.length) (hP : 0 < P.length) (hl : atI P ((P.length - 1 : Nat) : Int) = wv w p) : ∀ k, k ≤ w.length → legsK (wayL P w p) k = fillK P w p k
  | 0, _ => rfl
  | k + 1, hk => by
    unfold legsK fillK
    rw [legs_fill hp hP hl k (by omega), leg_tok hp hP hl (by omega)]
end Go.Proofs.Ytfgpenekmokdiaa.Fl
namespace Go.Proofs.Ytfgpenekmokdiaa
open Go Go.RowKit Fl

theorem gir_two {g : GraphD} {sh : List Bool} (hg : validG g = true) (h : girF g sh ≠ []) : 2 ≤ (girF g sh).length := by
  have h0 : 0 < (girF g sh).length := by
    rcases Nat.eq_zero_or_pos (girF g sh).length with e | e
    · exact absurd (List.eq_nil_of_length_eq_zero e) h
    · exact e
  rcases Nat.lt_or_ge (girF g sh).length 2 with h1 | h1
  · exfalso
    have he := gir_edge hg h h0
    have e : (0 + 1) % (girF g sh).length = 0 := by
      rw [show (girF g sh).length = 1 by omega]
    have e2 : (girF g sh)[(0 + 1) % (girF g sh).length]'(Nat.mod_lt _ (by omega)) = (girF g sh)[0] := by congr 1
    rw [e2] at he
    have hx := (gir_closed hg h).walk.ok _ (List.getElem_mem h0)
    obtain ⟨xn, hxn⟩ := Int.eq_ofNat_of_zero_le hx.1
    rw [hxn] at he hx
    have hlt : xn < g.length := by have := hx.2.1; omega
    unfold edgeI at he
    simp only [Int.toNat_natCast] at he
    exact (rowOk_row hg hlt _ he).2.2 rfl
  · exact h1
set_option maxRecDepth 100000 in
set_option maxHeartbeats 4000000 in
theorem refWalk_c (A : Option Addr) (c : Nat) (g : GraphD) (w : World) (hh : RowsAt w A g) (hg : validG g = true) :
    Calls Try.prog 44 #[.slice A g.length c] w fun e w' => ∃ u, e = .returned u ∧ w'.ownsRow w.heap.size 3 1 u (girF g (opensT g.length)).length ((girF g (opensT g.length)).map Iv) ∧ Below w.heap.size w w' := by
  have HH := Lib.hid hh
  have HV := Lib.hid hg
  have h24 := validG_len hg
  clear hh hg
  go_enter Try.func44, Try.ntmps44
  go_wp2_with (refine make_any _ rfl _ _ 50 4 (.bool false) 1 Try.underlying50 Try.infoBoolS rfl (by decide) rfl .i64 .i64 _ _ g.length rfl rfl rfl rfl (by omega) ?_)
  intro wM ownM hbM
  have HRM := Lib.hid (HH.out.keep hbM)
  have HSM : Hid (Holds wM (some ⟨w.heap.size, 0, none⟩) ((opensT g.length).map Bo)) := Lib.hid (by
    obtain ⟨A2, c2, h1, h2⟩ := own_is ownM
    injection h1 with h1
    subst h1
    unfold opensT
    rw [List.map_replicate]
    exact h2)
  have HBM := Lib.hid hbM
  have CG := Lib.hid (girth_c A (some ⟨w.heap.size, 0, none⟩) c g.length g (opensT g.length) wM HRM.out HSM.out HV.out (opens_len _))
  rw [opens_len] at CG
  clear ownM hbM HRM HSM
  go_wp2_with fail
  refine CG.out.mono ?_
  rintro e w2 ⟨u, rfl, hu, hb⟩
  have HB2 := Lib.hid (HBM.out.trans (hb.mono HBM.out.size))
  have HU := Lib.hid (ownsRow_base hu HBM.out.size)
  clear hu hb CG HBM
  go_wp2
  go_ret
  exact ⟨_, rfl, HU.out, HB2.out⟩
/-- What Tight of the reference returns. -/
def TightPost (g : GraphD) (w : World) (e : Ending) (w' : World) : Prop := Below w.heap.size w w' ∧
  if validG g = true then (if girF g (opensT g.length) = [] then e = .returned (.tuple #[.slice none 0 0, .slice none 0 0, .int .i64 25])
    else ∃ u v, e = .returned (.tuple #[u, v, .int .i64 0]) ∧ w'.ownsRow w.heap.size 3 1 u (girF g (opensT g.length)).length ((girF g (opensT g.length)).map Iv) ∧ w'.ownsRow w.heap.size 3 1 v (girF g (opensT g.length)).length ((rotL (girF g (opensT g.length))).map Iv))
  else e = .returned (.tuple #[.slice none 0 0, .slice none 0 0, .int .i64 20])
set_option maxRecDepth 100000 in
set_option maxHeartbeats 4000000 in
theorem refTight_c (A : Option Addr) (c : Nat) (g : GraphD) (w : World) (hh : RowsAt w A g) (hl : g.length ≤ 1000000000000000000) (hr : ∀ r ∈ g, r.length ≤ 1000000000000000000) :
    Calls Try.prog 25 #[.slice A g.length c] w (TightPost g w) := by
  have CV := Lib.hid (refGValid_c A c g w hh hl hr)
  unfold TightPost
  rcases hv : validG g with _ | _
  · rw [hv] at CV
    clear hh hr hv
    go_enter Try.func25, Try.ntmps25
    go_wp2_with fail
    refine CV.out.mono ?_
    rintro e w1 ⟨rfl, rfl⟩
    go_wp2
    go_ret3
    exact ⟨Below.refl _ _, rfl⟩
  · have CW := Lib.hid (refWalk_c A c g w hh hv)
    have HF : Hid ((girF g (opensT g.length)).length ≤ 24) := Lib.hid (gir_few hv)
    have H2 : Hid (girF g (opensT g.length) ≠ [] → 2 ≤ (girF g (opensT g.length)).length) := Lib.hid (gir_two hv)
    rw [hv] at CV
    clear hh hr hv
    generalize girF g (opensT g.length) = W at *
    go_enter Try.func25, Try.ntmps25
    go_wp2_with fail
    refine CV.out.mono ?_
    rintro e w1 ⟨rfl, rfl⟩
    go_wp2_with fail
    refine CW.out.mono ?_
    rintro e w2 ⟨u, rfl, hu, hb⟩
    have HB2 := Lib.hid hb
    have HU := Lib.hid hu
    clear hu hb CW CV
    obtain ⟨A2, c2, rfl, hc2, hh2⟩ := own_cap HU.out
    have HH2 := Lib.hid hh2
    clear hh2
    by_cases h0 : W = []
    · subst h0
      clear H2
      go_wp2
      go_ret3
      exact ⟨HB2.out, rfl⟩
    · have h2 := H2.out h0
      have h24 := HF.out
      have HN := Lib.hid h0
      obtain ⟨i0, hi, hz0, hz1, hz2⟩ := info_parts Try.infoIntG
      obtain ⟨b, o, rfl, e0⟩ := HH2.out.iv (show 0 < W.length by omega)
      clear h0 H2 HF
      have hWl : ¬ (W.length : Int) = 0 := by omega
      have hc21 : ¬ c2 = 1 := by omega
      have h1W : (1 : Int) ≤ (W.length : Int) := by omega
      have h0W : (0 : Int) < (W.length : Int) := by omega
      have HD : Hid (((W.drop 1).map Iv).length = (W.length - 1) * 1) := Lib.hid (by simp)
      have HNw : Hid (∀ Wx, Below w2.heap.size w2 Wx → ∀ j u, ((W.drop 1).map Iv)[j]? = some u → Wx.cell? ((⟨b, o + 1, none⟩ : Addr).add j) = some u) := Lib.hid (fun Wx hb j u hu => by
        have hh := HH2.out.keep hb
        rw [List.getElem?_map, List.getElem?_drop] at hu
        obtain ⟨x, hx, rfl⟩ := Option.map_eq_some_iff.1 hu
        obtain ⟨hj, rfl⟩ := List.getElem?_eq_some_iff.1 hx
        obtain ⟨b', o', hA, e⟩ := hh.iv hj
        injection hA with hA
        injection hA with q1 q2
        subst q1 q2
        have hadd : (⟨b, o + 1, none⟩ : Addr).add j = ⟨b, o + (1 + j), none⟩ := by unfold Addr.add; split <;> simp_all [Nat.add_assoc]
        rw [hadd]
        exact e)
      have HOne : Hid (∀ u ∈ (W.drop 1).map Iv, u.oneCell' = true) := Lib.hid (fun u hu => by obtain ⟨x, _, rfl⟩ := List.mem_map.1 hu; rfl)
      have hw0 : ∀ Wx, Below w2.heap.size w2 Wx → Wx.cell? ⟨b, o, none⟩ = some (Iv W[0]) := fun Wx hb => (hb.cell (p := ⟨b, o, none⟩) (World.block_lt_of_cell? _ _ e0)).trans e0
      have HW0 := Lib.hid hw0
      clear hw0
      have hsz2 := HB2.out.size
      have h0Wn : 0 < W.length := by omega
      have y0 := HW0.out w2.drew (Below.refl _ _).drew
      have HO0 : Hid (∀ (Wx : World) (gg cap : Nat), Wx.ownsRow w2.heap.size 3 1 (.slice (some ⟨gg, 0, none⟩) (0 + (W.length - 1)) cap) (0 + (W.length - 1)) ([] ++ (W.drop 1).map Iv) → Wx.ownsRow w2.heap.size 3 1 (.slice (some ⟨gg, 0, none⟩) (W.length - 1) cap) (W.length - 1) ((W.drop 1).map Iv)) := Lib.hid (fun Wx gg cap h => by rw [Nat.zero_add, List.nil_append] at h; exact h)
      have HNew : Hid (∀ (Wx : World) ob, (Wx.alloc ob).heap[Wx.heap.size]? = some ob) := Lib.hid (fun Wx ob => heap_alloc_new Wx ob)
      have HRot : Hid (rotL W = W.drop 1 ++ [W[0]]) := Lib.hid (by
        unfold rotL
        congr 1
        rcases W with _ | ⟨x, l⟩ <;> simp at h0Wn ⊢)
      generalize W[0] = z0 at *
      go_wp2
      go_region_law (first | (refine step_append_lies _ (by rfl) _ _ _ (by rfl) w2.heap.size 3 i0 (.int .i64 0) 1 8 Try.underlying23 hi hz0 hz1 hz2 rfl (by omega) (.slice none 0 0) 0 [] (by rfl) (World.ownsRow_nil _ _ _ _) ⟨b, o + 1, none⟩ (W.length - 1) (c2 - 1) ((W.drop 1).map Iv) (by rfl) HD.out (HNw.out _ (by repeat (first | assumption | (with_reducible exact Below.refl _ _) | (with_reducible refine Below.drew ?_) | (with_reducible refine Below.alloc ?_ (Nat.le_refl _) _)))) HOne.out (by omega) (by unfold maxLen; omega) (by omega) (by simp) _ rfl ?_; intro gg cap wn1 hown1 hgrow hat hlt; have HO1 := Lib.hid (HO0.out _ _ _ hown1); have hbn : Below w2.heap.size w2 wn1 := (Below.grown (by repeat (first | assumption | (with_reducible exact Below.refl _ _) | (with_reducible refine Below.drew ?_) | (with_reducible refine Below.alloc ?_ (Nat.le_refl _) _))) hgrow (by simp) (fun k hk => by simp [Value.ownBlock] at hk)); have y1 := HW0.out wn1 hbn; have HB1 := Lib.hid hbn; (try (have y2 : wn1.heap[w2.heap.size]? = some (.cells #[Iv z0] 3 (0, 0)) := (hgrow.block w2.heap.size (by simp) (by simp [Value.ownBlock])).trans (HNew.out w2.drew _); have HY2 := Lib.hid y2; clear y2)); clear hbn hown1 hgrow hat hlt) | (refine step_append_lies _ (by rfl) _ _ _ (by rfl) w2.heap.size 3 i0 (.int .i64 0) 1 8 Try.underlying23 hi hz0 hz1 hz2 rfl (by omega) (.slice (some ⟨_, 0, none⟩) (W.length - 1) _) (W.length - 1) ((W.drop 1).map Iv) (by rfl) (HO1.out.alloc _) ⟨_, 0, none⟩ 1 1 [Iv z0] (by rfl) (by rfl) (World.news_of_block (cs := #[Iv z0]) (t := 3) (fr := (0, 0)) (HNew.out _ _)) (by simp [Value.oneCell']) (by omega) (by unfold maxLen; omega) (by omega) (by have := HB1.out.size; simp; omega) _ rfl ?_; intro gg2 cap2 wn2 hown2 hgrow2 hat2 hlt2; have HO2 := Lib.hid hown2; have HG2 := Lib.hid hgrow2; clear hown2 hgrow2 hat2 hlt2) | (refine step_append_lies _ (by rfl) _ _ _ (by rfl) w2.heap.size 3 i0 (.int .i64 0) 1 8 Try.underlying23 hi hz0 hz1 hz2 rfl (by omega) (.slice (some ⟨_, 0, none⟩) (W.length - 1) _) (W.length - 1) ((W.drop 1).map Iv) (by rfl) HO1.out ⟨_, 0, none⟩ 1 1 [Iv z0] (by rfl) (by rfl) (World.news_of_block (cs := #[Iv z0]) (t := 3) (fr := (0, 0)) HY2.out) (by simp [Value.oneCell']) (by omega) (by unfold maxLen; omega) (by omega) (by have := HB1.out.size; simp; omega) _ rfl ?_; intro gg2 cap2 wn2 hown2 hgrow2 hat2 hlt2; have HO2 := Lib.hid hown2; have HG2 := Lib.hid hgrow2; clear hown2 hgrow2 hat2 hlt2))
      all_goals
        have hbs := own_base HO1.out
        have hs1 := HB1.out.size
        have HB3 : Hid (Below w2.heap.size w2 wn2) := Lib.hid (by first | exact (HB1.out.alloc hs1 _).grown HG2.out (by simp; omega) (fun k hk => hbs k hk) | exact HB1.out.grown HG2.out hs1 (fun k hk => hbs k hk))
        have HU3 := Lib.hid (ownsRow_below HU.out HB3.out)
        have HO3 : Hid (wn2.ownsRow w2.heap.size 3 1 (.slice (some ⟨gg2, 0, none⟩) (W.length - 1 + 1) cap2) W.length ((rotL W).map Iv)) := Lib.hid (by
          have h := HO2.out
          rw [HRot.out, List.map_append]
          have e : W.length - 1 + 1 = W.length := by omega
          rw [e] at h ⊢
          exact h)
        have HB4 := Lib.hid (HB2.out.trans (HB3.out.mono hsz2))
        clear HO1 HO2 HG2 HB1 HB3
        go_wp2
        go_ret3
        refine ⟨HB4.out, ?_⟩
        exact ⟨_, _, rfl, HU3.out, ownsRow_base HO3.out hsz2⟩
end Go.Proofs.Ytfgpenekmokdiaa
