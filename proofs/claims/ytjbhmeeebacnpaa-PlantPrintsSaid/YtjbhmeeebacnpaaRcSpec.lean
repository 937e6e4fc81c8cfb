/- Reaching in graphs: paths over open vertices, reversed graphs, graphs without the edges at shut vertices. No program is named here. -/
import Derived.Test.YtjbhmeeebacnpaaGrSpec
namespace Go.Proofs.Ytjbhmeeebacnpaa.Fl

/-- An edge from u to v. -/
def EdgeG (g : GraphD) (u v : Nat) : Prop := (v : Int) ∈ rowG g u
/-- u reaches v over open vertices. -/
inductive PathG (g : GraphD) (s : List Bool) : Nat → Nat → Prop
  | refl {u : Nat} : u < g.length → atB s u = false → PathG g s u u
  | step {u v x : Nat} : PathG g s u v → EdgeG g v x → x < g.length → atB s x = false → PathG g s u x
theorem PathG.right {g : GraphD} {s : List Bool} {u v : Nat} (h : PathG g s u v) : v < g.length ∧ atB s v = false := by
  cases h with
  | refl h1 h2 => exact ⟨h1, h2⟩
  | step _ _ h1 h2 => exact ⟨h1, h2⟩
theorem PathG.left {g : GraphD} {s : List Bool} {u v : Nat} (h : PathG g s u v) : u < g.length ∧ atB s u = false := by
  induction h with
  | refl h1 h2 => exact ⟨h1, h2⟩
  | step _ _ _ _ ih => exact ih
theorem PathG.trans {g : GraphD} {s : List Bool} {u v x : Nat} (h : PathG g s u v) (k : PathG g s v x) : PathG g s u x := by
  induction k with
  | refl _ _ => exact h
  | step _ e h1 h2 ih => exact .step ih e h1 h2
theorem PathG.head {g : GraphD} {s : List Bool} {u v x : Nat} (h1 : u < g.length) (h2 : atB s u = false) (e : EdgeG g u v) (k : PathG g s v x) : PathG g s u x :=
  (PathG.step (.refl h1 h2) e k.left.1 k.left.2).trans k
/-- With less shut, no less is reached. -/
theorem PathG.mono {g : GraphD} {s m : List Bool} (hs : ∀ v, atB s v = true → atB m v = true) {u v : Nat} (h : PathG g m u v) : PathG g s u v := by
  have key : ∀ v, atB m v = false → atB s v = false := fun v hv => by
    rcases h : atB s v with _ | _
    · rfl
    · rw [hs v h] at hv; cases hv
  induction h with
  | refl h1 h2 => exact .refl h1 (key _ h2)
  | step _ e h1 h2 ih => exact .step ih e h1 (key _ h2)
/-- A set that holds u and is closed under edges to open vertices holds all that u reaches. -/
theorem PathG.closed {g : GraphD} {s : List Bool} {P : Nat → Prop} {u v : Nat} (hu : P u) (hc : ∀ a b, P a → EdgeG g a b → b < g.length → atB s b = false → P b) (h : PathG g s u v) : P v := by
  induction h with
  | refl _ _ => exact hu
  | step _ e h1 h2 ih => exact hc _ _ ih e h1 h2
open Classical in
/-- Which vertices v reaches. -/
noncomputable def reachL (g : GraphD) (s : List Bool) (v : Nat) : List Bool := (List.range g.length).map (fun x => decide (PathG g s v x))
theorem reachL_length (g : GraphD) (s : List Bool) (v : Nat) : (reachL g s v).length = g.length := by simp [reachL]
theorem reachL_at {g : GraphD} {s : List Bool} {v x : Nat} (hx : x < g.length) : atB (reachL g s v) x = true ↔ PathG g s v x := by
  unfold atB reachL
  rw [List.getD_eq_getElem?_getD]
  simp [hx]
theorem reachL_eq {g : GraphD} {s l : List Bool} {v : Nat} (hl : l.length = g.length) (h : ∀ x, x < g.length → (atB l x = true ↔ PathG g s v x)) : l = reachL g s v := by
  apply List.ext_getElem?
  intro x
  rcases Nat.lt_or_ge x g.length with hx | hx
  · have h1 := h x hx
    have h2 := reachL_at (s := s) (v := v) hx
    have e : atB l x = atB (reachL g s v) x := by rw [Bool.eq_iff_iff, h1, h2]
    unfold atB at e
    rw [List.getD_eq_getElem?_getD, List.getD_eq_getElem?_getD, List.getElem?_eq_getElem (by omega), List.getElem?_eq_getElem (by rw [reachL_length]; omega)] at e
    rw [List.getElem?_eq_getElem (by omega), List.getElem?_eq_getElem (by rw [reachL_length]; omega)]
    simpa using e
  · rw [List.getElem?_eq_none (by omega), List.getElem?_eq_none (by rw [reachL_length]; omega)]

/-- Two strictly ascending lists with the same elements are the same. -/
theorem sorted_ext : ∀ {a b : List Int}, a.Pairwise (· < ·) → b.Pairwise (· < ·) → (∀ x, x ∈ a ↔ x ∈ b) → a = b
  | [], [], _, _, _ => rfl
  | [], y :: b, _, _, h => by have := (h y).2 (by simp); simp at this
  | x :: a, [], _, _, h => by have := (h x).1 (by simp); simp at this
  | x :: a, y :: b, ha, hb, h => by
    have h1 := List.pairwise_cons.1 ha
    have h2 := List.pairwise_cons.1 hb
    have e : x = y := by
      rcases List.mem_cons.1 ((h x).1 (by simp)) with e | hx
      · exact e
      · rcases List.mem_cons.1 ((h y).2 (by simp)) with e | hy
        · exact e.symm
        · have := h2.1 x hx; have := h1.1 y hy; omega
    subst e
    congr 1
    refine sorted_ext h1.2 h2.2 fun z => ?_
    have hz := h z
    rw [List.mem_cons, List.mem_cons] at hz
    constructor
    · intro hza
      rcases hz.1 (.inr hza) with e | hzb
      · have := h1.1 z hza; omega
      · exact hzb
    · intro hzb
      rcases hz.2 (.inr hzb) with e | hza
      · have := h2.1 z hzb; omega
      · exact hza
theorem validG_sorted {g : GraphD} (h : validG g = true) {k : Nat} (hk : k < g.length) : g[k].Pairwise (· < ·) := by
  unfold validG at h
  simp only [Bool.and_eq_true] at h
  exact (rowOk_sorted (rowsOk_at h.2 k hk)).1
theorem rowOk_mk {n v : Int} : ∀ {l : List Int} {p : Option Int}, l.Pairwise (· < ·) → (∀ x ∈ l, 0 ≤ x ∧ x < n ∧ x ≠ v) → (∀ y, p = some y → ∀ x ∈ l, y < x) → rowOk n v p l = true
  | [], _, _, _, _ => by simp [rowOk]
  | x :: l, p, hp, hm, hb => by
    have h1 := List.pairwise_cons.1 hp
    simp only [rowOk, Bool.and_eq_true, decide_eq_true_eq]
    refine ⟨⟨hm x (by simp), ?_⟩, rowOk_mk h1.2 (fun z hz => hm z (by simp [hz])) (fun y hy z hz => by injection hy with hy; subst hy; exact h1.1 z hz)⟩
    cases p with
    | none => rfl
    | some y => simpa [overP] using hb y rfl x (by simp)
theorem rowsOk_mk {n : Int} : ∀ {g : GraphD} {v : Int}, (∀ (k : Nat) (hk : k < g.length), rowOk n (v + k) none g[k] = true) → rowsOk n v g = true
  | [], _, _ => rfl
  | r :: g, v, h => by
    simp only [rowsOk, Bool.and_eq_true]
    refine ⟨by have := h 0 (by simp); rwa [show v + ((0 : Nat) : Int) = v by omega] at this, rowsOk_mk fun k hk => ?_⟩
    have := h (k + 1) (by simpa using hk)
    rw [show v + 1 + (k : Int) = v + ((k + 1 : Nat) : Int) by omega]
    simpa using this
theorem validG_mk {g : GraphD} (hl : g.length ≤ 24) (hs : ∀ (k : Nat) (hk : k < g.length), g[k].Pairwise (· < ·)) (hm : ∀ (k : Nat) (hk : k < g.length), ∀ x ∈ g[k], 0 ≤ x ∧ x < g.length ∧ x ≠ k) : validG g = true := by
  unfold validG
  rw [decide_eq_true hl, Bool.true_and]
  refine rowsOk_mk fun k hk => ?_
  rw [Int.zero_add]
  exact rowOk_mk (hs k hk) (hm k hk) (by simp)
theorem rowG_get {g : GraphD} {v : Nat} (hv : v < g.length) : rowG g v = g[v] := by unfold rowG; rw [List.getD_eq_getElem?_getD, List.getElem?_eq_getElem hv]; rfl
theorem rowG_out {g : GraphD} {v : Nat} (hv : g.length ≤ v) : rowG g v = [] := by unfold rowG; rw [List.getD_eq_getElem?_getD, List.getElem?_eq_none hv]; rfl
theorem EdgeG.range {g : GraphD} (hg : validG g = true) {u v : Nat} (h : EdgeG g u v) : u < g.length ∧ v < g.length ∧ v ≠ u := by
  rcases Nat.lt_or_ge u g.length with hu | hu
  · unfold EdgeG at h
    rw [rowG_get hu] at h
    have := validG_row hg hu _ h
    omega
  · unfold EdgeG at h
    rw [rowG_out hu] at h
    simp at h
/-- The vertices before k with an edge to x, ascending. -/
def intoK (g : GraphD) (k x : Nat) : List Int := ((List.range k).filter (fun (v : Nat) => decide ((x : Int) ∈ rowG g v))).map (fun v : Nat => (v : Int))
/-- The reversed graph. -/
def revG (g : GraphD) : GraphD := (List.range g.length).map (intoK g g.length)
theorem revG_length (g : GraphD) : (revG g).length = g.length := by simp [revG]
theorem intoK_sorted (g : GraphD) (k x : Nat) : (intoK g k x).Pairwise (· < ·) := by
  unfold intoK
  rw [List.pairwise_map]
  refine (List.Pairwise.filter _ (List.pairwise_lt_range (n := k))).imp fun h => ?_
  omega
theorem intoK_mem {g : GraphD} {k x : Nat} {z : Int} : z ∈ intoK g k x ↔ ∃ v : Nat, v < k ∧ (x : Int) ∈ rowG g v ∧ z = v := by
  unfold intoK
  simp only [List.mem_map, List.mem_filter, List.mem_range, decide_eq_true_eq]
  constructor
  · rintro ⟨v, ⟨h1, h2⟩, rfl⟩; exact ⟨v, h1, h2, rfl⟩
  · rintro ⟨v, h1, h2, rfl⟩; exact ⟨v, ⟨h1, h2⟩, rfl⟩
theorem revG_row {g : GraphD} {x : Nat} (hx : x < g.length) : rowG (revG g) x = intoK g g.length x := by
  unfold rowG revG
  rw [List.getD_eq_getElem?_getD]
  simp [hx]
theorem revG_edge {g : GraphD} {u v : Nat} (hu : u < g.length) : EdgeG (revG g) u v ↔ v < g.length ∧ EdgeG g v u := by
  unfold EdgeG
  rw [revG_row hu, intoK_mem]
  constructor
  · rintro ⟨a, h1, h2, h3⟩
    obtain rfl : v = a := by omega
    exact ⟨h1, h2⟩
  · rintro ⟨h1, h2⟩
    exact ⟨v, h1, h2, rfl⟩
theorem revG_valid {g : GraphD} (hg : validG g = true) : validG (revG g) = true := by
  refine validG_mk (by rw [revG_length]; exact validG_len hg) (fun k hk => ?_) (fun k hk x hx => ?_)
  · rw [revG_length] at hk
    rw [← rowG_get, revG_row hk]
    exact intoK_sorted _ _ _
  · have hk' := hk
    rw [revG_length] at hk'
    rw [← rowG_get, revG_row hk', intoK_mem] at hx
    obtain ⟨v, h1, h2, rfl⟩ := hx
    have h3 : EdgeG g v k := h2
    have := h3.range hg
    rw [revG_length]
    omega
theorem revG_rev {g : GraphD} (hg : validG g = true) : revG (revG g) = g := by
  apply List.ext_getElem (by rw [revG_length, revG_length])
  intro x h1 h2
  rw [← rowG_get, revG_row (by rw [revG_length]; exact h2)]
  refine sorted_ext (intoK_sorted _ _ _) (validG_sorted hg h2) fun z => ?_
  rw [intoK_mem, ← rowG_get h2]
  constructor
  · rintro ⟨v, h3, h4, rfl⟩
    rw [revG_length] at h3
    have h5 : EdgeG (revG g) v x := h4
    exact ((revG_edge h3).1 h5).2
  · intro hz
    rw [rowG_get h2] at hz
    have hr := validG_row hg h2 z hz
    refine ⟨z.toNat, by rw [revG_length]; omega, ?_, by omega⟩
    have : EdgeG (revG g) z.toNat x := (revG_edge (by omega)).2 ⟨h2, by unfold EdgeG; rw [rowG_get h2, show ((z.toNat : Nat) : Int) = z by omega]; exact hz⟩
    exact this
/-- Paths turn round with the edges. -/
theorem PathG.rev {g : GraphD} {s : List Bool} {u v : Nat} (h : PathG g s u v) : PathG (revG g) s v u := by
  induction h with
  | refl h1 h2 => exact .refl (by rwa [revG_length]) h2
  | step p e h1 h2 ih => exact .head (by rwa [revG_length]) h2 ((revG_edge h1).2 ⟨p.right.1, e⟩) ih
theorem path_rev {g : GraphD} {s : List Bool} (hg : validG g = true) {u v : Nat} : PathG g s u v ↔ PathG (revG g) s v u :=
  ⟨fun h => h.rev, fun h => by have := h.rev; rwa [revG_rev hg] at this⟩
/-- The graph without the edges from and to shut vertices. -/
def woRow (s : List Bool) (row : List Int) : List Int := row.filter (fun x => !atB s x.toNat)
def woG (g : GraphD) (s : List Bool) : GraphD := (List.range g.length).map (fun v => if atB s v then [] else woRow s (rowG g v))
theorem woG_length (g : GraphD) (s : List Bool) : (woG g s).length = g.length := by simp [woG]
theorem woG_row {g : GraphD} {s : List Bool} {x : Nat} (hx : x < g.length) : rowG (woG g s) x = if atB s x then [] else woRow s (rowG g x) := by
  rw [rowG_get (by rwa [woG_length])]
  simp [woG]
theorem woG_edge {g : GraphD} {s : List Bool} {u v : Nat} (hu : u < g.length) : EdgeG (woG g s) u v ↔ EdgeG g u v ∧ atB s u = false ∧ atB s v = false := by
  unfold EdgeG
  rw [woG_row hu]
  rcases h : atB s u with _ | _
  · simp [woRow]
  · simp
theorem woG_valid {g : GraphD} {s : List Bool} (hg : validG g = true) : validG (woG g s) = true := by
  refine validG_mk (by rw [woG_length]; exact validG_len hg) (fun k hk => ?_) (fun k hk x hx => ?_)
  · rw [woG_length] at hk
    rw [← rowG_get, woG_row hk]
    split
    · exact .nil
    · rw [rowG_get hk]
      exact (validG_sorted hg hk).filter _
  · have hk' := hk
    rw [woG_length] at hk'
    rw [← rowG_get, woG_row hk'] at hx
    rw [woG_length]
    split at hx
    · simp at hx
    · rw [rowG_get hk'] at hx
      exact validG_row hg hk' x (List.mem_filter.1 hx).1
/-- Between open vertices nothing changes without the edges at shut ones. -/
theorem path_wo {g : GraphD} {s z : List Bool} (hz : ∀ v, atB z v = false) {u v : Nat} (hu : atB s u = false) (hul : u < g.length) : PathG g s u v ↔ PathG (woG g s) z u v := by
  constructor
  · intro h
    induction h with
    | refl h1 h2 => exact .refl (by rwa [woG_length]) (hz _)
    | step p e h1 h2 ih => exact .step ih ((woG_edge p.right.1).2 ⟨e, p.right.2, h2⟩) (by rwa [woG_length]) (hz _)
  · intro h
    induction h with
    | refl h1 h2 => exact .refl hul hu
    | step p e h1 h2 ih =>
      have h3 := ih
      have h4 := (woG_edge h3.right.1).1 e
      exact .step h3 h4.1 (by rwa [woG_length] at h1) h4.2.2
/-- All open vertices reach each other if and only if one of them reaches all, in the graph and in the reversed one. -/
theorem mutual_one {g : GraphD} {s : List Bool} (hg : validG g = true) {a : Nat} (ha : a < g.length) (hs : atB s a = false) :
    (∀ u v, u < g.length → v < g.length → atB s u = false → atB s v = false → PathG g s u v) ↔ ∀ v, v < g.length → atB s v = false → PathG g s a v ∧ PathG (revG g) s a v := by
  constructor
  · intro h v hv hv2
    exact ⟨h a v ha hv hs hv2, (path_rev hg).1 (h v a hv ha hv2 hs)⟩
  · intro h u v hu hv hu2 hv2
    exact ((path_rev hg).2 (h u hu hu2).2).trans (h v hv hv2).1
end Go.Proofs.Ytjbhmeeebacnpaa.Fl
