/- Joined texts. -/
import Derived.Test.YtfgpenekmokdiaaMzAA
namespace Go.Proofs.Ytfgpenekmokdiaa.Fl

/-- An edge from u to v. -/
def EdgeG (g : GraphD) (u v : Nat) : Prop := (v : Int) ∈ rowG g u
/-- u reaches v over open vertices. -/
inductive PathG (g : GraphD) (s : List Bool) : Nat → Nat → Prop
  | refl {u : Nat} : u < g.length → atB s u = false → PathG g s u u
  | step {u v x : Nat} : PathG g s u v → EdgeG g v x → x < g.length → atB s x = false → PathG g s u x
theorem PathG.right {g : GraphD} {s : List Bool} {u v : Nat} (h : PathG g s u v) : v < g.length ∧ atB s v = false := by
  cases h with
  | refl h1 h2 => exact ⟨h1, h2⟩
  | step _ _ h1 h2 => exact ⟨h1, h2⟩
theorem PathG.left {g : GraphD} {s : List Bool} {u v : Nat} (h : PathG g s u v) : u < g.length ∧ atB s u = false := by
  induction h with
  | refl h1 h2 => exact ⟨h1, h2⟩
  | step _ _ _ _ ih => exact ih
theorem PathG.trans {g : GraphD} {s : List Bool} {u v x : Nat} (h : PathG g s u v) (k : PathG g s v x) : PathG g s u x := by
  induction k with
  | refl _ _ => exact h
  | step _ e h1 h2 ih => exact .step ih e h1 h2
theorem PathG.head {g : GraphD} {s : List Bool} {u v x : Nat} (h1 : u < g.length) (h2 : atB s u = false) (e : EdgeG g u v) (k : PathG g s v x) : PathG g s u x :=
  (PathG.step (.refl h1 h2) e k.left.1 k.left.2).trans k
/-- With less shut, no less is reached. -/
theorem PathG.mono {g : GraphD} {s m : List Bool} (hs : ∀ v, atB s v = true → atB m v = true) {u v : Nat} (h : PathG g m u v) : PathG g s u v := by
  have key : ∀ v, atB m v = false → atB s v = false := fun v hv => by
    rcases h : atB s v with _ | _
    · rfl
    · rw [hs v h] at hv; cases hv
  induction h with
  | refl h1 h2 => exact .refl h1 (key _ h2)
  | step _ e h1 h2 ih => exact .step ih e h1 (key _ h2)
/-- A set that holds u and is closed under edges to open vertices holds all that u reaches. -/
theorem PathG.closed {g : GraphD} {s : List Bool} {P : Nat → Prop} {u v : Nat} (hu : P u) (hc : ∀ a b, P a → EdgeG g a b → b < g.length → atB s b = false → P b) (h : PathG g s u v) : P v := by
  induction h with
  | refl _ _ => exact hu
  | step _ e h1 h2 ih => exact hc _ _ ih e h1 h2
open Classical in
/-- Which vertices v reaches. -/
noncomputable def reachL (g : GraphD) (s : List Bool) (v : Nat) : List Bool := (List.range g.length).map (fun x => decide (PathG g s v x))
theorem reachL_length (g : GraphD) (s : List Bool) (v : Nat) : (reachL g s v).length = g.length := by simp [reachL]
theorem reachL_at {g : GraphD} {s : List Bool} {v x : Nat} (hx : x < g.length) : atB (reachL g s v) x = true ↔ PathG g s v x := by
  unfold atB reachL
  rw [List.getD_eq_getElem?_getD]
  simp [hx]
theorem reachL_eq {g : GraphD} {s l : List Bool} {v : Nat} (hl : l.length = g.length) (h : ∀ x, x < g.length → (atB l x = true ↔ PathG g s v x)) : l = reachL g s v := by
  apply List.ext_getElem?
  intro x
  rcases Nat.lt_or_ge x g.length with hx | hx
  · have h1 := h x hx
    have h2 := reachL_at (s := s) (v := v) hx
    have e : atB l x = atB (reachL g s v) x := by rw [Bool.eq_iff_iff, h1, h2]
    unfold atB at e
    rw [List.getD_eq_getElem?_getD, List.getD_eq_getElem?_getD, List.getElem?_eq_getElem (by omega), List.getElem?_eq_getElem (by rw [reachL_length]; omega)] at e
    rw [List.getElem?_eq_getElem (by omega), List.getElem?_eq_getElem (by rw [reachL_length]; omega)]
    simpa using e
  · rw [List.getElem?_eq_none (by omega), List.getElem?_eq_none (by rw [reachL_length]; omega)]

/-- Two strictly ascending lists with the same elements are the same. -/
theorem sorted_ext : ∀ {a b : List Int}, a.Pairwise (· < ·) → b.Pairwise (· < ·) → (∀ x, x ∈ a ↔ x ∈ b) → a = b
  | [], [], _, _, _ => rfl
  | [], y :: b, _, _, h => by have := (h y).2 (by simp); simp at this
  | x :: a, [], _, _, h => by have := (h x).1 (by simp); simp at this
  | x :: a, y :: b, ha, hb, h => by
    have h1 := List.pairwise_cons.1 ha
    have h2 := List.pairwise_cons.1 hb
    have e : x = y := by
      rcases List.mem_cons.1 ((h x).1 (by simp)) with e | hx
      · exact e
      · rcases List.mem_cons.1 ((h y).2 (by simp)) with e | hy
        · exact e.symm
        · have := h2.1 x hx; have := h1.1 y hy; omega
    subst e
    congr 1
    refine sorted_ext h1.2 h2.2 fun z => ?_
    have hz := h z
    rw [List.mem_cons, List.mem_cons] at hz
    constructor
    · intro hza
      rcases hz.1 (.inr hza) with e | hzb
      · have := h1.1 z hza; omega
      · exact hzb
    · intro hzb
      rcases hz.2 (.inr hzb) with e | hza
      · have := h2.1 z hzb; omega
      · exact hza
theorem validG_sorted {g : GraphD} (h : validG g = true) {k : Nat} (hk : k < g.length) : g[k].Pairwise (· < ·) := by
  unfold validG at h
  simp only [Bool.and_eq_true] at h
  exact (rowOk_sorted (rowsOk_at h.2 k hk)).1
theorem rowOk_mk {n v : Int} : ∀ {l : List Int} {p : Option Int}, l.Pairwise (· < ·) → (∀ x ∈ l, 0 ≤ x ∧ x < n ∧ x ≠ v) → (∀ y, p = some y → ∀ x ∈ l, y < x) → rowOk n v p l = true
  | [], _, _, _, _ => by simp [rowOk]
  | x :: l, p, hp, hm, hb => by
    have h1 := List.pairwise_cons.1 hp
    simp only [rowOk, Bool.and_eq_true, decide_eq_true_eq]
    refine ⟨⟨hm x (by simp), ?_⟩, rowOk_mk h1.2 (fun z hz => hm z (by simp [hz])) (fun y hy z hz => by injection hy with hy; subst hy; exact h1.1 z hz)⟩
    cases p with
    | none => rfl
    | some y => simpa [overP] using hb y rfl x (by simp)
theorem rowsOk_mk {n : Int} : ∀ {g : GraphD} {v : Int}, (∀ (k : Nat) (hk : k < g.length), rowOk n (v + k) none g[k] = true) → rowsOk n v g = true
  | [], _, _ => rfl
  | r :: g, v, h => by
    simp only [rowsOk, Bool.and_eq_true]
    refine ⟨by have := h 0 (by simp); rwa [show v + ((0 : Nat) : Int) = v by omega] at this, rowsOk_mk fun k hk => ?_⟩
    have := h (k + 1) (by simpa using hk)
    rw [show v + 1 + (k : Int) = v + ((k + 1 : Nat) : Int) by omega]
    simpa using this
theorem validG_mk {g : GraphD} (hl : g.length ≤ 24) (hs : ∀ (k : Nat) (hk : k < g.length), g[k].Pairwise (· < ·)) (hm : ∀ (k : Nat) (hk : k < g.length), ∀ x ∈ g[k], 0 ≤ x ∧ x < g.length ∧ x ≠ k) : validG g = true := by
  unfold validG
  rw [decide_eq_true hl, Bool.true_and]
  refine rowsOk_mk fun k hk => ?_
  rw [Int.zero_add]
  exact rowOk_mk (hs k hk) (hm k hk) (by simp)
theorem rowG_get {g : GraphD} {v : Nat} (hv : v < g.length) : rowG g v = g[v] := by unfold rowG; rw [List.getD_eq_getElem?_getD, List.getElem?_eq_getElem hv]; rfl
theorem rowG_out {g : GraphD} {v : Nat} (hv : g.length ≤ v) : rowG g v = [] := by unfold rowG; rw [List.getD_eq_getElem?_getD, List.getElem?_eq_none hv]; rfl
theorem EdgeG.range {g : GraphD} (hg : validG g = true) {u v : Nat} (h : EdgeG g u v) : u < g.length ∧ v < g.length ∧ v ≠ u := by
  rcases Nat.lt_or_ge u g.length with hu | hu
  · unfold EdgeG at h
    rw [rowG_get hu] at h
    have := validG_row hg hu _ h
    omega
  · unfold EdgeG at h
    rw [rowG_out hu] at h
    simp at h
/-- The vertices before k with an edge to x, ascending. -/
def intoK (g : GraphD) (k x : Nat) : List Int := ((List.range k).filter (fun (v : Nat) => decide ((x : Int) ∈ rowG g v))).map (fun v : Nat => (v : Int))
/-- The reversed graph. -/
def revG (g : GraphD) : GraphD := (List.range g.length).map (intoK g g.length)
theorem revG_length (g : GraphD) : (revG g).length = g.length := by simp [revG]
theorem intoK_sorted (g : GraphD) (k x : Nat) : (intoK g k x).Pairwise (· < ·) := by
  unfold intoK
  rw [List.pairwise_map]
  refine (List.Pairwise.filter _ (List.pairwise_lt_range (n := k))).imp fun h => ?_
  omega
theorem intoK_mem {g : GraphD} {k x : Nat} {z : Int} : z ∈ intoK g k x ↔ ∃ v : Nat, v < k ∧ (x : Int) ∈ rowG g v ∧ z = v := by
  unfold intoK
  simp only [List.mem_map, List.mem_filter, List.mem_range, decide_eq_true_eq]
  constructor
  · rintro ⟨v, ⟨h1, h2⟩, rfl⟩; exact ⟨v, h1, h2, rfl⟩
  · rintro ⟨v, h1, h2, rfl⟩; exact ⟨v, ⟨h1, h2⟩, rfl⟩
theorem revG_row {g : GraphD} {x : Nat} (hx : x < g.length) : rowG (revG g) x = intoK g g.length x := by
  unfold rowG revG
  rw [List.getD_eq_getElem?_getD]
  simp [hx]
theorem revG_edge {g : GraphD} {u v : Nat} (hu : u < g.length) : EdgeG (revG g) u v ↔ v < g.length ∧ EdgeG g v u := by
  unfold EdgeG
  rw [revG_row hu, intoK_mem]
  constructor
  · rintro ⟨a, h1, h2, h3⟩
    obtain rfl : v = a := by omega
    exact ⟨h1, h2⟩
  · rintro ⟨h1, h2⟩
    exact ⟨v, h1, h2, rfl⟩
theorem revG_valid {g : GraphD} (hg : validG g = true) : validG (revG g) = true := by
  refine validG_mk (by rw [revG_length]; exact validG_len hg) (fun k hk => ?_) (fun k hk x hx => ?_)
  · rw [revG_length] at hk
    rw [← rowG_get, revG_row hk]
    exact intoK_sorted _ _ _
  · have hk' := hk
    rw [revG_length] at hk'
    rw [← rowG_get, revG_row hk', intoK_mem] at hx
    obtain ⟨v, h1, h2, rfl⟩ := hx
    have h3 : EdgeG g v k := h2
    have := h3.range hg
    rw [revG_length]
    omega
theorem revG_rev {g : GraphD} (hg : validG g = true) : revG (revG g) = g := by
  apply List.ext_getElem (by rw [revG_length, revG_length])
  intro x h1 h2
  rw [← rowG_get, revG_row (by rw [revG_length]; exact h2)]
  refine sorted_ext (intoK_sorted _ _ _) (validG_sorted hg h2) fun z => ?_
  rw [intoK_mem, ← rowG_get h2]
  constructor
  · rintro ⟨v, h3, h4, rfl⟩
    rw [revG_length] at h3
    have h5 : EdgeG (revG g) v x := h4
    exact ((revG_edge h3).1 h5).2
  · intro hz
    rw [rowG_get h2] at hz
    have hr := validG_row hg h2 z hz
    refine ⟨z.toNat, by rw [revG_length]; omega, ?_, by omega⟩
    have : EdgeG (revG g) z.toNat x := (revG_edge (by omega)).2 ⟨h2, by unfold EdgeG; rw [rowG_get h2, show ((z.toNat : Nat) : Int) = z by omega]; exact hz⟩
    exact this
/-- Paths turn round with the edges. -/
theorem PathG.rev {g : GraphD} {s : List Bool} {u v : Nat} (h : PathG g s u v) : PathG (revG g) s v u := by
  induction h with
  | refl h1 h2 => exact .refl (by rwa [revG_length]) h2
  | step p e h1 h2 ih => exact .head (by rwa [revG_length]) h2 ((revG_edge h1).2 ⟨p.right.1, e⟩) ih
theorem path_rev {g : GraphD} {s : List Bool} (hg : validG g = true) {u v : Nat} : PathG g s u v ↔ PathG (revG g) s v u :=
  ⟨fun h => h.rev, fun h => by have := h.rev; rwa [revG_rev hg] at this⟩
/-- The graph without the edges from and to shut vertices. -/
def woRow (s : List Bool) (row : List Int) : List Int := row.filter (fun x => !atB s x.toNat)
def woG (g : GraphD) (s : List Bool) : GraphD := (List.range g.length).map (fun v => if atB s v then [] else woRow s (rowG g v))
theorem woG_length (g : GraphD) (s : List Bool) : (woG g s).length = g.length := by simp [woG]
theorem woG_row {g : GraphD} {s : List Bool} {x : Nat} (hx : x < g.length) : rowG (woG g s) x = if atB s x then [] else woRow s (rowG g x) := by
  rw [rowG_get (by rwa [woG_length])]
  simp [woG]
theorem woG_edge {g : GraphD} {s : List Bool} {u v : Nat} (hu : u < g.length) : EdgeG (woG g s) u v ↔ EdgeG g u v ∧ atB s u = false ∧ atB s v = false := by
  unfold EdgeG
  rw [woG_row hu]
  rcases h : atB s u with _ | _
  · simp [woRow]
  · simp
theorem woG_valid {g : GraphD} {s : List Bool} (hg : validG g = true) : validG (woG g s) = true := by
  refine validG_mk (by rw [woG_length]; exact validG_len hg) (fun k hk => ?_) (fun k hk x hx => ?_)
  · rw [woG_length] at hk
    rw [← rowG_get, woG_row hk]
    split
    · exact .nil
    · rw [rowG_get hk]
      exact (validG_sorted hg hk).filter _
  · have hk' := hk
    rw [woG_length] at hk'
    rw [← rowG_get, woG_row hk'] at hx
    rw [woG_length]
    split at hx
    · simp at hx
    · rw [rowG_get hk'] at hx
      exact validG_row hg hk' x (List.mem_filter.1 hx).1
/-- Between open vertices nothing changes without the edges at shut ones. -/
theorem path_wo {g : GraphD} {s z : List Bool} (hz : ∀ v, atB z v = false) {u v : Nat} (hu : atB s u = false) (hul : u < g.length) : PathG g s u v ↔ PathG (woG g s) z u v := by
  constructor
  · intro h
    induction h with
    | refl h1 h2 => exact .refl (by rwa [woG_length]) (hz _)
    | step p e h1 h2 ih => exact .step ih ((woG_edge p.right.1).2 ⟨e, p.right.2, h2⟩) (by rwa [woG_length]) (hz _)
  · intro h
    induction h with
    | refl h1 h2 => exact .refl hul hu
    | step p e h1 h2 ih =>
      have h3 := ih
      have h4 := (woG_edge h3.right.1).1 e
      exact .step h3 h4.1 (by rwa [woG_length] at h1) h4.2.2
/-- All open vertices reach each other if and only if one of them reaches all, in the graph and in the reversed one. -/
theorem mutual_one {g : GraphD} {s : List Bool} (hg : validG g = true) {a : Nat} (ha : a < g.length) (hs : atB s a = false) :
    (∀ u v, u < g.length → v < g.length → atB s u = false → atB s v = false → PathG g s u v) ↔ ∀ v, v < g.length → atB s v = false → PathG g s a v ∧ PathG (revG g) s a v := by
  constructor
  · intro h v hv hv2
    exact ⟨h a v ha hv hs hv2, (path_rev hg).1 (h v a hv ha hv2 hs)⟩
  · intro h u v hu hv hu2 hv2
    exact ((path_rev hg).2 (h u hu hu2).2).trans (h v hv hv2).1
end Go.Proofs.Ytfgpenekmokdiaa.Fl
namespace Go.Proofs.Ytfgpenekmokdiaa.Fl

/-- The least number below n with p. -/
def leastF (p : Nat → Bool) : Nat → Option Nat
  | 0 => none
  | n + 1 => match leastF p n with
    | some i => some i
    | none => if p n then some n else none
theorem leastF_some {p : Nat → Bool} : ∀ {n i : Nat}, leastF p n = some i → p i = true ∧ i < n ∧ ∀ j, j < i → p j = false
  | 0, i, h => by cases h
  | n + 1, i, h => by
    unfold leastF at h
    rcases e : leastF p n with _ | k
    · rw [e] at h
      simp only at h
      split at h
      · rename_i hp
        injection h with h
        subst h
        refine ⟨hp, by omega, fun j hj => ?_⟩
        exact leastF_none_aux e j hj
      · cases h
    · rw [e] at h
      simp only at h
      injection h with h
      subst h
      obtain ⟨h1, h2, h3⟩ := leastF_some e
      exact ⟨h1, by omega, h3⟩
where
  leastF_none_aux {p : Nat → Bool} : ∀ {n : Nat}, leastF p n = none → ∀ j, j < n → p j = false
  | 0, _, j, hj => by omega
  | n + 1, h, j, hj => by
    unfold leastF at h
    rcases e : leastF p n with _ | k
    · rw [e] at h
      simp only at h
      split at h
      · cases h
      · rename_i hp
        rcases Nat.lt_succ_iff_lt_or_eq.1 hj with h1 | rfl
        · exact leastF_none_aux e j h1
        · simpa using hp
    · rw [e] at h; cases h
theorem leastF_none {p : Nat → Bool} {n : Nat} (h : leastF p n = none) : ∀ j, j < n → p j = false := leastF_some.leastF_none_aux h
theorem leastF_is {p : Nat → Bool} {n i : Nat} (hi : i < n) (hp : p i = true) (hl : ∀ j, j < i → p j = false) : leastF p n = some i := by
  rcases e : leastF p n with _ | k
  · have := leastF_none e i hi; rw [hp] at this; cases this
  · obtain ⟨h1, h2, h3⟩ := leastF_some e
    rcases Nat.lt_trichotomy k i with h | h | h
    · have := hl k h; rw [h1] at this; cases this
    · rw [h]
    · have := h3 i h; rw [hp] at this; cases this

def both (g : GraphD) (s : List Bool) (v w : Nat) : Prop := PathG g s v w ∧ PathG g s w v
theorem both.symm {g : GraphD} {s : List Bool} {v w : Nat} (h : both g s v w) : both g s w v := ⟨h.2, h.1⟩
theorem both.trans {g : GraphD} {s : List Bool} {u v w : Nat} (h : both g s u v) (k : both g s v w) : both g s u w := ⟨h.1.trans k.1, k.2.trans h.2⟩
theorem both.self {g : GraphD} {s : List Bool} {v : Nat} (hv : v < g.length) (hs : atB s v = false) : both g s v v := ⟨.refl hv hs, .refl hv hs⟩
open Classical in
/-- The name of v's component, or -1. -/
noncomputable def nameOf (g : GraphD) (s : List Bool) (v : Nat) : Int := match leastF (fun w => decide (both g s v w)) (v + 1) with
  | some w => (w : Int)
  | none => -1
theorem name_cases (g : GraphD) (s : List Bool) (v : Nat) : (nameOf g s v = -1 ∧ ¬ (v < g.length ∧ atB s v = false)) ∨ ∃ w : Nat, nameOf g s v = w ∧ w ≤ v ∧ both g s v w ∧ ∀ u, u < w → ¬ both g s v u := by
  classical
  unfold nameOf
  rcases e : leastF (fun w => decide (both g s v w)) (v + 1) with _ | w
  · left
    refine ⟨rfl, fun h => ?_⟩
    have := leastF_none e v (by omega)
    simp only [decide_eq_false_iff_not] at this
    exact this (both.self h.1 h.2)
  · obtain ⟨h1, h2, h3⟩ := leastF_some e
    simp only [decide_eq_true_eq] at h1
    exact .inr ⟨w, rfl, by omega, h1, fun u hu => by simpa using h3 u hu⟩
theorem name_shut {g : GraphD} {s : List Bool} {v : Nat} (h : ¬ (v < g.length ∧ atB s v = false)) : nameOf g s v = -1 := by
  rcases name_cases g s v with ⟨h1, _⟩ | ⟨w, _, _, h3, _⟩
  · exact h1
  · exact absurd h3.1.left h
theorem name_open {g : GraphD} {s : List Bool} {v : Nat} (hv : v < g.length) (hs : atB s v = false) : ∃ w : Nat, nameOf g s v = w ∧ w ≤ v ∧ both g s v w ∧ ∀ u, u < w → ¬ both g s v u := by
  rcases name_cases g s v with ⟨_, h1⟩ | h
  · exact absurd ⟨hv, hs⟩ h1
  · exact h
theorem name_nat {g : GraphD} {s : List Bool} {v w : Nat} (h : nameOf g s v = w) : w ≤ v ∧ both g s v w ∧ ∀ u, u < w → ¬ both g s v u := by
  rcases name_cases g s v with ⟨h1, _⟩ | ⟨a, h1, h2⟩
  · omega
  · obtain rfl : a = w := by omega
    exact h2
theorem name_nonneg {g : GraphD} {s : List Bool} {v : Nat} (h : 0 ≤ nameOf g s v) : ∃ w : Nat, nameOf g s v = w := Int.eq_ofNat_of_zero_le h
theorem name_le (g : GraphD) (s : List Bool) (v : Nat) : nameOf g s v ≤ v := by
  rcases name_cases g s v with ⟨h1, _⟩ | ⟨a, h1, h2, _⟩ <;> omega
theorem name_ge (g : GraphD) (s : List Bool) (v : Nat) : -1 ≤ nameOf g s v := by
  rcases name_cases g s v with ⟨h1, _⟩ | ⟨a, h1, h2, _⟩ <;> omega
theorem name_eq {g : GraphD} {s : List Bool} {v w : Nat} (h : both g s v w) : nameOf g s v = nameOf g s w := by
  obtain ⟨a, ha, _, ha1, ha2⟩ := name_open h.1.left.1 h.1.left.2
  obtain ⟨b, hb, _, hb1, hb2⟩ := name_open h.1.right.1 h.1.right.2
  have h1 : ¬ a < b := fun hl => hb2 a hl (h.symm.trans ha1)
  have h2 : ¬ b < a := fun hl => ha2 b hl (h.trans hb1)
  rw [ha, hb]
  omega
theorem name_both {g : GraphD} {s : List Bool} {v w : Nat} (h : nameOf g s v = nameOf g s w) (h0 : 0 ≤ nameOf g s v) : both g s v w := by
  obtain ⟨a, ha⟩ := name_nonneg h0
  exact (name_nat ha).2.1.trans (name_nat (h ▸ ha)).2.1.symm
/-- A name is its own. -/
theorem name_name {g : GraphD} {s : List Bool} {v w : Nat} (h : nameOf g s v = w) : nameOf g s w = w ∧ w < g.length ∧ atB s w = false ∧ both g s v w := by
  have hb := (name_nat h).2.1
  exact ⟨by rw [← name_eq hb, h], hb.1.right.1, hb.1.right.2, hb⟩
noncomputable def namesL (g : GraphD) (s : List Bool) : List Int := (List.range g.length).map (nameOf g s)
theorem namesL_length (g : GraphD) (s : List Bool) : (namesL g s).length = g.length := by simp [namesL]
theorem namesL_at {g : GraphD} {s : List Bool} {v : Nat} (h : v < (namesL g s).length) : (namesL g s)[v] = nameOf g s v := by simp [namesL]

/-! ### The order -/
open Classical in
noncomputable def cand (g : GraphD) (s : List Bool) (out : List Int) (v : Nat) : Bool :=
  decide (nameOf g s v = v ∧ (v : Int) ∉ out ∧ ∀ w : Nat, w < g.length → nameOf g s w = w → w ≠ v → (w : Int) ∉ out → ¬ PathG g s w v)
noncomputable def best (g : GraphD) (s : List Bool) (out : List Int) : Option Nat := leastF (cand g s out) g.length
theorem cand_iff {g : GraphD} {s : List Bool} {out : List Int} {v : Nat} : cand g s out v = true ↔ nameOf g s v = v ∧ (v : Int) ∉ out ∧ ∀ w : Nat, w < g.length → nameOf g s w = w → w ≠ v → (w : Int) ∉ out → ¬ PathG g s w v := by
  classical
  unfold cand; exact decide_eq_true_iff
inductive Runs (g : GraphD) (s : List Bool) : List Int → List Int → Prop
  | stop {out : List Int} : best g s out = none → Runs g s out out
  | step {out res : List Int} {v : Nat} : best g s out = some v → Runs g s (out ++ [(v : Int)]) res → Runs g s out res
theorem Runs.none {g : GraphD} {s : List Bool} {out res : List Int} (h : Runs g s out res) (hb : best g s out = .none) : out = res := by
  cases h with
  | stop _ => rfl
  | step h1 _ => rw [hb] at h1; cases h1
theorem Runs.some {g : GraphD} {s : List Bool} {out res : List Int} {v : Nat} (h : Runs g s out res) (hb : best g s out = .some v) : Runs g s (out ++ [(v : Int)]) res := by
  cases h with
  | stop h1 => rw [hb] at h1; cases h1
  | step h1 h2 => rw [hb] at h1; injection h1 with h1; subst h1; exact h2
theorem filter_less {α : Type} {p q : α → Bool} : ∀ {l : List α}, (∀ x ∈ l, q x = true → p x = true) → ∀ y ∈ l, p y = true → q y = false → (l.filter q).length < (l.filter p).length
  | [], _, y, hy, _, _ => by simp at hy
  | x :: l, h, y, hy, hp, hq => by
    have key : (l.filter q).length ≤ (l.filter p).length := filter_le (fun z hz => h z (by simp [hz]))
    rcases List.mem_cons.1 hy with rfl | hy'
    · rw [List.filter_cons_of_pos hp, List.filter_cons_of_neg (by simp [hq]), List.length_cons]
      omega
    · have ih := filter_less (fun z hz => h z (by simp [hz])) y hy' hp hq
      rcases e : q x with _ | _
      · rw [List.filter_cons_of_neg (by simp [e])]
        rcases e2 : p x with _ | _
        · rw [List.filter_cons_of_neg (by simp [e2])]; exact ih
        · rw [List.filter_cons_of_pos e2, List.length_cons]; omega
      · rw [List.filter_cons_of_pos e, List.filter_cons_of_pos (h x (by simp) e), List.length_cons, List.length_cons]
        omega
where
  filter_le {α : Type} {p q : α → Bool} : ∀ {l : List α}, (∀ x ∈ l, q x = true → p x = true) → (l.filter q).length ≤ (l.filter p).length
  | [], _ => by simp
  | x :: l, h => by
    have ih := filter_le (p := p) (q := q) (l := l) (fun z hz => h z (by simp [hz]))
    rcases e : q x with _ | _
    · rw [List.filter_cons_of_neg (by simp [e])]
      rcases e2 : p x with _ | _
      · rw [List.filter_cons_of_neg (by simp [e2])]; exact ih
      · rw [List.filter_cons_of_pos e2, List.length_cons]; omega
    · rw [List.filter_cons_of_pos e, List.filter_cons_of_pos (h x (by simp) e), List.length_cons, List.length_cons]
      omega
def leftN (g : GraphD) (out : List Int) : Nat := ((List.range g.length).filter (fun (v : Nat) => decide ((v : Int) ∉ out))).length
theorem leftN_step {g : GraphD} {out : List Int} {v : Nat} (hv : v < g.length) (hn : (v : Int) ∉ out) : leftN g (out ++ [(v : Int)]) < leftN g out :=
  filter_less (fun x _ h => by simp at h ⊢; exact h.1) v (List.mem_range.2 hv) (by simpa using hn) (by simp)
theorem best_some {g : GraphD} {s : List Bool} {out : List Int} {v : Nat} (h : best g s out = some v) : v < g.length ∧ cand g s out v = true := ⟨(leastF_some h).2.1, (leastF_some h).1⟩
theorem best_left {g : GraphD} {s : List Bool} {out : List Int} {v : Nat} (h : best g s out = some v) : leftN g (out ++ [(v : Int)]) < leftN g out :=
  leftN_step (best_some h).1 (cand_iff.1 (best_some h).2).2.1
theorem runs_ex (g : GraphD) (s : List Bool) : ∀ (k : Nat) (out : List Int), leftN g out ≤ k → ∃ r, Runs g s out r
  | k, out, h => by
    rcases e : best g s out with _ | v
    · exact ⟨out, .stop e⟩
    · have hl := best_left e
      match k, h with
      | 0, h => omega
      | k + 1, h =>
        obtain ⟨r, hr⟩ := runs_ex g s k (out ++ [(v : Int)]) (by omega)
        exact ⟨r, .step e hr⟩
noncomputable def orderL (g : GraphD) (s : List Bool) : List Int := Classical.choose (runs_ex g s _ [] (Nat.le_refl _))
theorem orderL_runs (g : GraphD) (s : List Bool) : Runs g s [] (orderL g s) := Classical.choose_spec (runs_ex g s _ [] (Nat.le_refl _))
structure OrdOk (g : GraphD) (s : List Bool) (out : List Int) : Prop where
  nodup : out.Nodup
  name : ∀ z ∈ out, ∃ v : Nat, z = v ∧ v < g.length ∧ nameOf g s v = v
  before : ∀ (i v w : Nat), out[i]? = some (v : Int) → nameOf g s w = w → w ≠ v → PathG g s w v → ∃ j, j < i ∧ out[j]? = some (w : Int)
theorem OrdOk.nil (g : GraphD) (s : List Bool) : OrdOk g s [] := ⟨.nil, by simp, by simp⟩
theorem OrdOk.step {g : GraphD} {s : List Bool} {out : List Int} {v : Nat} (h : OrdOk g s out) (hb : best g s out = some v) : OrdOk g s (out ++ [(v : Int)]) := by
  obtain ⟨hv, hc⟩ := best_some hb
  obtain ⟨h1, h2, h3⟩ := cand_iff.1 hc
  refine ⟨?_, fun z hz => ?_, fun i x w hx hw hne hp => ?_⟩
  · rw [List.nodup_append]
    refine ⟨h.nodup, by simp, fun a ha b hb => ?_⟩
    simp at hb
    subst hb
    intro e
    subst e
    exact h2 ha
  · rcases List.mem_append.1 hz with hz | hz
    · exact h.name z hz
    · simp at hz
      exact ⟨v, hz, hv, h1⟩
  · rw [List.getElem?_append] at hx
    split at hx
    · rename_i hi
      obtain ⟨j, hj, e⟩ := h.before i x w hx hw hne hp
      exact ⟨j, hj, by rw [List.getElem?_append, if_pos (by omega)]; exact e⟩
    · rename_i hi
      have hi2 : i - out.length = 0 := by
        have := (List.getElem?_eq_some_iff.1 hx).1
        simp at this
        omega
      rw [hi2] at hx
      simp at hx
      have hxv : v = x := by omega
      subst hxv
      have hwl := hp.left.1
      have hin : (w : Int) ∈ out := Classical.byContradiction fun hno => h3 w hwl hw hne hno hp
      obtain ⟨j, hj, e⟩ := List.mem_iff_getElem.1 hin
      exact ⟨j, by omega, by rw [List.getElem?_append, if_pos hj, List.getElem?_eq_getElem hj, e]⟩
theorem runs_ok {g : GraphD} {s : List Bool} {out res : List Int} (h : Runs g s out res) : OrdOk g s out → OrdOk g s res ∧ best g s res = none := by
  induction h with
  | stop hb => exact fun h => ⟨h, hb⟩
  | step hb _ ih => exact fun h => ih (h.step hb)
open Classical in
/-- w is a name that is left and leads to v. -/
noncomputable def ahead (g : GraphD) (s : List Bool) (out : List Int) (v w : Nat) : Bool := decide (nameOf g s w = w ∧ w ≠ v ∧ (w : Int) ∉ out ∧ PathG g s w v)
theorem ahead_iff {g : GraphD} {s : List Bool} {out : List Int} {v w : Nat} : ahead g s out v w = true ↔ nameOf g s w = w ∧ w ≠ v ∧ (w : Int) ∉ out ∧ PathG g s w v := by
  classical
  unfold ahead; exact decide_eq_true_iff
/-- If a name is left, so is one to which no other one that is left leads. -/
theorem least_left {g : GraphD} {s : List Bool} {out : List Int} : ∀ (k v : Nat), ((List.range g.length).filter (ahead g s out v)).length ≤ k →
    v < g.length → nameOf g s v = v → (v : Int) ∉ out → ∃ x, x < g.length ∧ cand g s out x = true
  | k, v, hk, hv, hn, ho => by
    by_cases hc : cand g s out v = true
    · exact ⟨v, hv, hc⟩
    · have hex : ∃ w : Nat, w < g.length ∧ nameOf g s w = w ∧ w ≠ v ∧ (w : Int) ∉ out ∧ PathG g s w v := Classical.byContradiction fun hno => hc (cand_iff.2 ⟨hn, ho, fun w h1 h2 h3 h4 h5 => hno ⟨w, h1, h2, h3, h4, h5⟩⟩)
      obtain ⟨w, hw, hwn, hwv, hwo, hwp⟩ := hex
      have hless := filter_less (l := List.range g.length) (q := ahead g s out w) (p := ahead g s out v)
        (fun u _ h => by
          have h := ahead_iff.1 h
          refine ahead_iff.2 ⟨h.1, fun e => ?_, h.2.2.1, h.2.2.2.trans hwp⟩
          subst e
          have := name_eq (⟨h.2.2.2, hwp⟩ : both g s u w)
          rw [h.1, hwn] at this
          exact hwv (by omega)) w (List.mem_range.2 hw) (ahead_iff.2 ⟨hwn, hwv, hwo, hwp⟩) (by
            rcases e : ahead g s out w w with _ | _
            · rfl
            · exact absurd rfl (ahead_iff.1 e).2.1)
      match k, hk with
      | 0, hk => omega
      | k + 1, hk => exact least_left k w (by omega) hw hwn hwo
theorem best_all {g : GraphD} {s : List Bool} {out : List Int} (h : best g s out = none) {v : Nat} (hv : v < g.length) (hn : nameOf g s v = v) : (v : Int) ∈ out := Classical.byContradiction fun ho => by
  obtain ⟨x, hx, hc⟩ := least_left _ v (Nat.le_refl _) hv hn ho
  have := leastF_none h x hx
  rw [hc] at this
  cases this
theorem order_ok (g : GraphD) (s : List Bool) : OrdOk g s (orderL g s) := (runs_ok (orderL_runs g s) (.nil g s)).1
theorem order_all {g : GraphD} {s : List Bool} {v : Nat} (hv : v < g.length) (hn : nameOf g s v = v) : (v : Int) ∈ orderL g s := best_all (runs_ok (orderL_runs g s) (.nil g s)).2 hv hn

/-! ### The quotient -/
def quotMem (g : GraphD) (s : List Bool) (a : Nat) (z : Int) : Prop := ∃ u x : Nat, EdgeG g u x ∧ nameOf g s u = a ∧ nameOf g s x = z ∧ 0 ≤ z ∧ z ≠ a
open Classical in
noncomputable def quotRow (g : GraphD) (s : List Bool) (a : Nat) : List Int := ((List.range g.length).filter (fun (b : Nat) => decide (quotMem g s a b))).map (fun (b : Nat) => (b : Int))
noncomputable def quotL (g : GraphD) (s : List Bool) : GraphD := (List.range g.length).map (quotRow g s)
theorem quotL_length (g : GraphD) (s : List Bool) : (quotL g s).length = g.length := by simp [quotL]
theorem quotL_at {g : GraphD} {s : List Bool} {a : Nat} (h : a < (quotL g s).length) : (quotL g s)[a] = quotRow g s a := by simp [quotL]
theorem quotRow_mem {g : GraphD} {s : List Bool} {a : Nat} {z : Int} : z ∈ quotRow g s a ↔ quotMem g s a z := by
  classical
  unfold quotRow
  rw [List.mem_map]
  constructor
  · rintro ⟨b, hb, rfl⟩
    have := (List.mem_filter.1 hb).2
    simpa using this
  · intro h
    have h0 := h
    obtain ⟨u, x, _, _, hx, hz, _⟩ := h
    obtain ⟨b, rfl⟩ := Int.eq_ofNat_of_zero_le hz
    exact ⟨b, List.mem_filter.2 ⟨List.mem_range.2 (name_name hx).2.1, by simpa using h0⟩, rfl⟩
theorem quotRow_sorted (g : GraphD) (s : List Bool) (a : Nat) : (quotRow g s a).Pairwise (· < ·) := by
  unfold quotRow
  rw [List.pairwise_map]
  refine List.Pairwise.imp (fun h => ?_) (List.Pairwise.filter _ (List.pairwise_lt_range))
  omega
/-- Who leads to whom, comes before. -/
theorem quot_path {g : GraphD} {s : List Bool} {a b : Nat} (h : quotMem g s a b) : nameOf g s a = a ∧ nameOf g s b = b ∧ b ≠ a ∧ PathG g s a b := by
  obtain ⟨u, x, he, hu, hx, _, hne⟩ := h
  obtain ⟨a1, _, _, a2⟩ := name_name hu
  obtain ⟨b1, _, _, b2⟩ := name_name hx
  refine ⟨a1, b1, fun e => hne (by rw [e]), ?_⟩
  exact (a2.2.trans (PathG.step (.refl a2.1.left.1 a2.1.left.2) he b2.1.left.1 b2.1.left.2)).trans b2.1
end Go.Proofs.Ytfgpenekmokdiaa.Fl
