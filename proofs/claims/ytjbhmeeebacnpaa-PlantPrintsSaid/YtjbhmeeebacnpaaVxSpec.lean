/- What makes a network valid, part by part, as the code asks it. -/
import Derived.Test.YtjbhmeeebacnpaaNtMem
namespace Go.Proofs.Ytjbhmeeebacnpaa
open Go Go.RowKit Fl

/-- A call that reports whether P holds. -/
def Exact (P : Prop) (w : World) (e : Ending) (w' : World) : Prop := (∃ z : Bool, e = .returned (.bool z) ∧ (z = true ↔ P)) ∧ Below w.heap.size w w'
theorem Exact.no {P : Prop} {w w' : World} (h : ¬ P) (hb : Below w.heap.size w w') : Exact P w (.returned (.bool false)) w' := ⟨⟨false, rfl, ⟨fun h' => absurd h' Bool.false_ne_true, fun h' => absurd h' h⟩⟩, hb⟩
theorem Exact.yes {P : Prop} {w w' : World} (h : P) (hb : Below w.heap.size w w') : Exact P w (.returned (.bool true)) w' := ⟨⟨true, rfl, ⟨fun _ => h, fun _ => rfl⟩⟩, hb⟩
theorem Exact.use {P : Prop} {w w' : World} {e : Ending} (h : Exact P w e w') : (P ∧ e = .returned (.bool true) ∨ ¬ P ∧ e = .returned (.bool false)) ∧ Below w.heap.size w w' := by
  obtain ⟨⟨z, rfl, hz⟩, hb⟩ := h
  refine ⟨?_, hb⟩
  rcases z with _ | _
  · exact .inr ⟨fun hp => absurd (hz.2 hp) Bool.false_ne_true, rfl⟩
  · exact .inl ⟨hz.1 rfl, rfl⟩
theorem Exact.is {P : Prop} {w w' : World} {b : Bool} (h : b = true ↔ P) (hb : Below w.heap.size w w') : Exact P w (.returned (.bool b)) w' := ⟨⟨b, rfl, h⟩, hb⟩
/-- Lengths that a call can be given. -/
structure NetLen (N : NetD) : Prop where
  blocks : N.blocks.length ≤ 1000000000000000000
  next : N.next.length ≤ 1000000000000000000
  rows : ∀ r ∈ N.next, r.length ≤ 1000000000000000000
  spurs : N.spurs.length ≤ 1000000000000000000
  robots : N.robots.length ≤ 1000000000000000000
  named : ∀ s ∈ namesN N, s.length ≤ maxLen
/-- A block and the lanes from it. -/
structure RowFit (nb k : Nat) (r : List Int) : Prop where
  few : r.length ≤ 4
  sorted : r.Pairwise (· < ·)
  range : ∀ x ∈ r, 0 ≤ x ∧ x < (nb : Int) ∧ x ≠ (k : Int)
structure PlaceFit (b : BlockD) : Prop where
  x : -9999 ≤ b.x ∧ b.x ≤ 9999
  y : -9999 ≤ b.y ∧ b.y ≤ 9999
/-- The blocks and their lanes. -/
structure GridOk (N : NetD) : Prop where
  size : 1 ≤ N.blocks.length ∧ N.blocks.length ≤ 24
  lanes : N.next.length = N.blocks.length
  places : ∀ b ∈ N.blocks, PlaceFit b
  rows : ∀ k (h : k < N.next.length), RowFit N.blocks.length k N.next[k]
/-- A spur at place k. -/
structure SpurFit (nb : Nat) (l : List SpurD) (k : Nat) (s : SpurD) : Prop where
  inn : 0 ≤ s.inn ∧ s.inn < nb
  out : 0 ≤ s.out ∧ s.out < nb
  slots : 1 ≤ s.slots ∧ s.slots ≤ 4
  base : s.base = nb + slotsK l k
structure SpursOk (N : NetD) : Prop where
  few : N.spurs.length ≤ 6
  each : ∀ k (h : k < N.spurs.length), SpurFit N.blocks.length N.spurs k N.spurs[k]
structure RobOk (N : NetD) : Prop where
  few : N.robots.length ≤ 8
  homes : ∀ x ∈ N.robots, inDepot N.spurs x
  once : N.robots.Nodup
/-- The first j vertices of a row are as they must be. -/
def PreRow (nb k : Nat) (r : List Int) (j : Nat) : Prop := (∀ i (h : i < r.length), i < j → 0 ≤ r[i] ∧ r[i] < (nb : Int) ∧ r[i] ≠ (k : Int)) ∧ (∀ i (h : i + 1 < r.length), i + 1 < j → r[i] < r[i + 1])
theorem PreRow.zero (nb k : Nat) (r : List Int) : PreRow nb k r 0 := ⟨fun i h hj => by omega, fun i h hj => by omega⟩
theorem PreRow.step {nb k j : Nat} {r : List Int} (h : PreRow nb k r j) (hj : j < r.length) (h1 : 0 ≤ r[j] ∧ r[j] < (nb : Int) ∧ r[j] ≠ (k : Int)) (h2 : ∀ (h0 : 0 < j), r[j - 1]'(by omega) < r[j]) : PreRow nb k r (j + 1) := by
  refine ⟨fun i hi hij => ?_, fun i hi hij => ?_⟩
  · rcases Nat.lt_succ_iff_lt_or_eq.1 hij with h' | rfl
    · exact h.1 i hi h'
    · exact h1
  · rcases Nat.lt_succ_iff_lt_or_eq.1 hij with h' | h'
    · exact h.2 i hi h'
    · subst h'
      exact h2 (by omega)
theorem adj_sorted {r : List Int} (h : ∀ i (h : i + 1 < r.length), r[i] < r[i + 1]) : r.Pairwise (· < ·) := by
  rw [List.pairwise_iff_getElem]
  intro i j hi hj hij
  induction j with
  | zero => omega
  | succ j ih =>
    rcases Nat.lt_succ_iff_lt_or_eq.1 hij with h' | rfl
    · exact Int.lt_trans (ih (by omega) h') (h j hj)
    · exact h i hj
theorem PreRow.all {nb k : Nat} {r : List Int} (h : PreRow nb k r r.length) (h4 : r.length ≤ 4) : RowFit nb k r :=
  ⟨h4, adj_sorted (fun i hi => h.2 i hi hi), fun x hx => by obtain ⟨i, hi, rfl⟩ := List.mem_iff_getElem.1 hx; exact h.1 i hi hi⟩
theorem RowFit.step {nb k j : Nat} {r : List Int} (h : RowFit nb k r) (hj : j < r.length) : (0 ≤ r[j] ∧ r[j] < (nb : Int) ∧ r[j] ≠ (k : Int)) ∧ ∀ (h0 : 0 < j), r[j - 1]'(by omega) < r[j] :=
  ⟨h.range _ (List.getElem_mem hj), fun h0 => List.pairwise_iff_getElem.1 h.sorted (j - 1) j (by omega) hj (by omega)⟩
theorem GridOk.of {N : NetD} (h1 : 1 ≤ N.blocks.length ∧ N.blocks.length ≤ 24) (h2 : N.next.length = N.blocks.length) (h : ∀ i (h : i < N.blocks.length) (h' : i < N.next.length), PlaceFit N.blocks[i] ∧ RowFit N.blocks.length i N.next[i]) : GridOk N :=
  ⟨h1, h2, fun b hb => by obtain ⟨i, hi, rfl⟩ := List.mem_iff_getElem.1 hb; exact (h i hi (by omega)).1, fun k hk => (h k (by omega) hk).2⟩
theorem rowOk_of {n v : Int} : ∀ (l : List Int) (p : Option Int), l.Pairwise (· < ·) → (∀ x ∈ l, 0 ≤ x ∧ x < n ∧ x ≠ v) → (∀ y, p = some y → ∀ x ∈ l, y < x) → rowOk n v p l = true
  | [], p, _, _, _ => by cases p <;> rfl
  | x :: l, p, hs, hr, hp => by
    rw [List.pairwise_cons] at hs
    unfold rowOk
    rw [rowOk_of l (some x) hs.2 (fun y hy => hr y (List.mem_cons_of_mem _ hy)) (fun y hy z hz => by injection hy with hy; subst hy; exact hs.1 z hz)]
    have h1 : decide (0 ≤ x ∧ x < n ∧ x ≠ v) = true := decide_eq_true (hr x (by simp))
    have h2 : overP p x = true := by
      cases p with
      | none => rfl
      | some y => simpa [overP] using hp y rfl x (by simp)
    simp [h1, h2]
theorem rowsOk_of {n : Int} : ∀ (g : GraphD) (v : Nat), (∀ k (h : k < g.length), rowOk n ((v + k : Nat) : Int) none g[k] = true) → rowsOk n (v : Int) g = true
  | [], _, _ => rfl
  | r :: g, v, h => by
    unfold rowsOk
    have h0 := h 0 (by simp)
    simp only [List.getElem_cons_zero, Nat.add_zero] at h0
    rw [h0, Bool.true_and]
    have := rowsOk_of g (v + 1) (fun k hk => by
      have h1 := h (k + 1) (by simpa using hk)
      rw [List.getElem_cons_succ] at h1
      rw [show v + 1 + k = v + (k + 1) by omega]
      exact h1)
    rwa [show ((v + 1 : Nat) : Int) = (v : Int) + 1 by omega] at this
theorem GridOk.graph {N : NetD} (h : GridOk N) : validG N.next = true := by
  unfold validG
  rw [Bool.and_eq_true]
  refine ⟨decide_eq_true (by rw [h.lanes]; exact h.size.2), ?_⟩
  refine rowsOk_of N.next 0 (fun k hk => ?_)
  have hr := h.rows k hk
  rw [Nat.zero_add]
  exact rowOk_of _ none hr.sorted (fun x hx => by rw [h.lanes]; exact hr.range x hx) (fun y hy => by cases hy)
theorem netOk_iff (N : NetD) : NetOk N ↔ GridOk N ∧ SpursOk N ∧ (∃ s ∈ N.spurs, s.depot = true) ∧ (∀ s ∈ namesN N, name s = true) ∧ (namesN N).Nodup ∧ RobOk N ∧ ConfOk N.queue N.aging N.detours N.patience := by
  constructor
  · intro h
    refine ⟨⟨⟨h.some, h.few⟩, h.lanes, fun b hb => ?_, fun k hk => ⟨h.outs _ (List.getElem_mem hk), validG_sorted' h.graph hk, fun x hx => ?_⟩⟩, ⟨h.spurs6, fun k hk => ?_⟩, h.depot, h.named, h.apart, ⟨h.robots8, h.homes, h.once⟩, h.conf⟩
    · obtain ⟨p1, p2, p3, p4⟩ := h.places b hb
      exact ⟨⟨p1, p2⟩, ⟨p3, p4⟩⟩
    · have := validG_row h.graph hk x hx
      rwa [h.lanes] at this
    · have := h.spurOk _ (List.getElem_mem hk)
      exact ⟨this.inn, this.out, this.slots, h.bases k hk⟩
  · rintro ⟨h1, h2, h3, h4, h5, h6, h7⟩
    exact ⟨h1.size.1, h1.size.2, h1.lanes, fun b hb => ⟨(h1.places b hb).x.1, (h1.places b hb).x.2, (h1.places b hb).y.1, (h1.places b hb).y.2⟩, fun r hr => by obtain ⟨k, hk, rfl⟩ := List.mem_iff_getElem.1 hr; exact (h1.rows k hk).few, h1.graph, h2.few, h4, h5, h6.few, h7,
      fun s hs => by obtain ⟨k, hk, rfl⟩ := List.mem_iff_getElem.1 hs; have := h2.each k hk; exact ⟨this.inn, this.out, this.slots⟩, fun k hk => (h2.each k hk).base, h6.homes, h6.once, h3⟩
end Go.Proofs.Ytjbhmeeebacnpaa
