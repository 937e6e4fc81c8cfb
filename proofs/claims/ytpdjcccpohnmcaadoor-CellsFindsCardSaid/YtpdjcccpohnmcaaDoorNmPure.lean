/- The networks that the statements make are valid; a slot is free as long as robots are fewer than the slots of the depots. -/
import Derived.Test.YtpdjcccpohnmcaaDoorNtFew
import Derived.Test.YtpdjcccpohnmcaaDoorMjM
namespace Go.Proofs.YtpdjcccpohnmcaaDoor
open Go Go.RowKit Fl

def bnm (i : Nat) : List UInt8 := 98 :: dec i
def snm (i : Nat) : List UInt8 := 115 :: dec i
theorem nm_ok : ∀ i, i < 10 → name (bnm i) = true ∧ name (snm i) = true := by decide +kernel
theorem nm_inj : ∀ i, i < 10 → ∀ j, j < 10 → (bnm i = bnm j → i = j) ∧ (snm i = snm j → i = j) ∧ bnm i ≠ snm j := by decide +kernel
/-- The blocks that are made. -/
structure MadeB (l : List BlockD) : Prop where
  few : l.length ≤ 8
  named : ∀ k (h : k < l.length), l[k].name = bnm k
  places : ∀ b ∈ l, -9999 ≤ b.x ∧ b.x ≤ 9999 ∧ -9999 ≤ b.y ∧ b.y ≤ 9999
theorem MadeB.nil : MadeB [] := ⟨by simp, fun k h => by simp at h, fun b hb => by simp at hb⟩
theorem MadeB.push {l : List BlockD} (h : MadeB l) (hl : l.length < 8) {x y : Int} (hx : -9999 ≤ x ∧ x ≤ 9999) (hy : -9999 ≤ y ∧ y ≤ 9999) : MadeB (l ++ [⟨bnm l.length, x, y⟩]) := by
  refine ⟨by simp; omega, fun k hk => ?_, fun b hb => ?_⟩
  · rw [List.getElem_append]
    split
    · exact h.named k _
    · have : k = l.length := by simp at hk; omega
      subst this
      simp
  · rcases List.mem_append.1 hb with hb | hb
    · exact h.places b hb
    · simp at hb
      subst hb
      exact ⟨hx.1, hx.2, hy.1, hy.2⟩
/-- The spurs that are made. -/
structure MadeS (nb : Nat) (l : List SpurD) : Prop where
  few : l.length ≤ 6
  named : ∀ k (h : k < l.length), l[k].name = snm k
  ok : ∀ s ∈ l, SpurOk nb s
  bases : ∀ k (h : k < l.length), l[k].base = nb + slotsK l k
  first : ∀ (h : 0 < l.length), l[0].depot = true
theorem MadeS.nil (nb : Nat) : MadeS nb [] := ⟨by simp, fun k h => by simp at h, fun s hs => by simp at hs, fun k h => by simp at h, fun h => by simp at h⟩
theorem slotsK_left {l : List SpurD} {s : SpurD} {k : Nat} (h : k ≤ l.length) : slotsK (l ++ [s]) k = slotsK l k := by
  unfold slotsK
  rw [List.take_append_of_le_length h]
theorem MadeS.push {nb : Nat} {l : List SpurD} (h : MadeS nb l) (hl : l.length < 6) {s : SpurD} (hn : s.name = snm l.length) (ho : SpurOk nb s) (hb : s.base = nb + slotsK l l.length) (hd : l.length = 0 → s.depot = true) : MadeS nb (l ++ [s]) := by
  refine ⟨by simp; omega, fun k hk => ?_, fun x hx => ?_, fun k hk => ?_, fun h0 => ?_⟩
  · rw [List.getElem_append]
    split
    · exact h.named k _
    · have : k = l.length := by simp at hk; omega
      subst this
      simpa using hn
  · rcases List.mem_append.1 hx with hx | hx
    · exact h.ok x hx
    · simp at hx
      subst hx
      exact ho
  · have hk' : k ≤ l.length := by simp at hk; omega
    rw [slotsK_left hk', List.getElem_append]
    split
    · exact h.bases k _
    · have : k = l.length := by omega
      subst this
      simpa using hb
  · rw [List.getElem_append]
    split
    · exact h.first _
    · have : l.length = 0 := by omega
      simpa using hd this
theorem slotsK_push (l : List SpurD) (s : SpurD) : slotsK (l ++ [s]) (l ++ [s]).length = slotsK l l.length + s.slots := by
  unfold slotsK
  rw [List.take_of_length_le (Nat.le_refl _), List.take_of_length_le (Nat.le_refl _), List.map_append, List.sum_append]
  simp
/-- What Net makes is valid. -/
theorem made_ok {N : NetD} (hb : MadeB N.blocks) (h1 : 1 ≤ N.blocks.length) (hl : N.next.length = N.blocks.length) (hg : GrOk N.blocks.length N.next) (ho : ∀ r ∈ N.next, r.length ≤ 4) (hs : MadeS N.blocks.length N.spurs) (h2 : 1 ≤ N.spurs.length) (hc : ConfOk N.queue N.aging N.detours N.patience) (hr : N.robots.length ≤ 8) (hd : ∀ x ∈ N.robots, inDepot N.spurs x) (hn : N.robots.Nodup) : NetOk N := by
  have b8 := hb.few
  have s6 := hs.few
  refine ⟨h1, by omega, hl, hb.places, ho, hg.valid (by omega), s6, fun x hx => ?_, ?_, hr, hc, hs.ok, hs.bases, hd, hn, ⟨N.spurs[0], List.getElem_mem _, hs.first h2⟩⟩
  · rcases List.mem_append.1 hx with hx | hx
    · obtain ⟨b, hb1, rfl⟩ := List.mem_map.1 hx
      obtain ⟨k, hk, rfl⟩ := List.mem_iff_getElem.1 hb1
      rw [hb.named k hk]
      exact (nm_ok k (by omega)).1
    · obtain ⟨b, hb1, rfl⟩ := List.mem_map.1 hx
      obtain ⟨k, hk, rfl⟩ := List.mem_iff_getElem.1 hb1
      rw [hs.named k hk]
      exact (nm_ok k (by omega)).2
  · refine List.nodup_append.2 ⟨?_, ?_, fun x hx y hy e => ?_⟩
    · refine List.pairwise_iff_getElem.2 fun i j hi hj hij e => ?_
      rw [List.getElem_map, List.getElem_map, hb.named, hb.named] at e
      rw [List.length_map] at hi hj
      have := (nm_inj i (by omega) j (by omega)).1 e
      omega
    · refine List.pairwise_iff_getElem.2 fun i j hi hj hij e => ?_
      rw [List.getElem_map, List.getElem_map, hs.named, hs.named] at e
      rw [List.length_map] at hi hj
      have := (nm_inj i (by omega) j (by omega)).2.1 e
      omega
    · obtain ⟨b, hb1, rfl⟩ := List.mem_map.1 hx
      obtain ⟨k, hk, rfl⟩ := List.mem_iff_getElem.1 hb1
      obtain ⟨s, hs1, rfl⟩ := List.mem_map.1 hy
      obtain ⟨m, hm, rfl⟩ := List.mem_iff_getElem.1 hs1
      rw [hb.named k hk, hs.named m hm] at e
      exact (nm_inj k (by omega) m (by omega)).2.2 e
/-! ### Lanes -/
theorem GrOk.row {n : Nat} {g : GraphD} (h : GrOk n g) {v : Nat} {r : List Int} (hs : r.Pairwise (· < ·)) (hx : ∀ x ∈ r, 0 ≤ x ∧ x < n ∧ x ≠ v) : GrOk n (g.set v r) := by
  refine ⟨by simpa using h.len, fun r' hr => ?_, fun k hk y hy => ?_⟩
  · rcases List.mem_or_eq_of_mem_set hr with hr | rfl
    · exact h.sorted r' hr
    · exact hs
  · rw [List.getElem_set] at hy
    split at hy
    · rename_i e
      subst e
      exact hx y hy
    · exact h.range k (by simpa using hk) y hy
theorem outs_set {g : GraphD} {v : Nat} {r : List Int} (h : ∀ r ∈ g, r.length ≤ 4) (hr : r.length ≤ 4) : ∀ x ∈ g.set v r, x.length ≤ 4 := fun x hx => by
  rcases List.mem_or_eq_of_mem_set hx with hx | rfl
  · exact h x hx
  · exact hr
/-! ### Free slots -/
def cellsS (s : SpurD) : List Int := if s.depot then (List.range s.slots.toNat).map (fun j : Nat => s.base + j) else []
/-- The free slots of the first k spurs. -/
def freeK (l : List SpurD) (rb : List Int) (k : Nat) : List Int := (l.take k).flatMap (fun s => (cellsS s).filter (fun x => !rb.contains x))
def depK (l : List SpurD) (k : Nat) : List Int := (l.take k).flatMap cellsS
theorem freeK_succ {l : List SpurD} {rb : List Int} {k : Nat} (h : k < l.length) : freeK l rb (k + 1) = freeK l rb k ++ (cellsS l[k]).filter (fun x => !rb.contains x) := by
  unfold freeK
  rw [List.take_succ_eq_append_getElem h, List.flatMap_append]
  simp
theorem depK_succ {l : List SpurD} {k : Nat} (h : k < l.length) : depK l (k + 1) = depK l k ++ cellsS l[k] := by
  unfold depK
  rw [List.take_succ_eq_append_getElem h, List.flatMap_append]
  simp
theorem cellsS_mem {s : SpurD} {x : Int} : x ∈ cellsS s ↔ s.depot = true ∧ s.base ≤ x ∧ x < s.base + s.slots := by
  unfold cellsS
  by_cases h : s.depot = true
  · rw [if_pos h]
    simp only [List.mem_map, List.mem_range, h, true_and]
    constructor
    · rintro ⟨j, hj, rfl⟩; omega
    · intro hx; exact ⟨(x - s.base).toNat, by omega, by omega⟩
  · rw [if_neg h]; simp [h]
theorem freeK_mem {l : List SpurD} {rb : List Int} {k : Nat} {x : Int} : x ∈ freeK l rb k ↔ (∃ s ∈ l.take k, s.depot = true ∧ s.base ≤ x ∧ x < s.base + s.slots) ∧ x ∉ rb := by
  unfold freeK
  simp only [List.mem_flatMap, List.mem_filter, cellsS_mem]
  constructor
  · rintro ⟨s, h1, h2, h3⟩; exact ⟨⟨s, h1, h2⟩, by simpa using h3⟩
  · rintro ⟨⟨s, h1, h2⟩, h3⟩; exact ⟨s, h1, h2, by simpa using h3⟩
theorem depK_mem {l : List SpurD} {k : Nat} {x : Int} : x ∈ depK l k ↔ ∃ s ∈ l.take k, s.depot = true ∧ s.base ≤ x ∧ x < s.base + s.slots := by
  unfold depK
  simp only [List.mem_flatMap, cellsS_mem]
theorem cellsS_length {s : SpurD} (h : 0 ≤ s.slots) : ((cellsS s).length : Int) = if s.depot then s.slots else 0 := by
  unfold cellsS
  split
  · rw [List.length_map, List.length_range]; omega
  · rfl
theorem cellsS_nodup (s : SpurD) : (cellsS s).Nodup := by
  unfold cellsS
  split
  · unfold List.Nodup
    rw [List.pairwise_map]
    exact List.nodup_range.imp fun h e => h (by omega)
  · exact .nil
theorem depK_all {nb : Nat} {l : List SpurD} (h : MadeS nb l) : ∀ k, k ≤ l.length → (depK l k).Nodup ∧ (∀ x ∈ depK l k, x < nb + slotsK l k) ∧ ((depK l k).length : Int) = ((l.take k).map (fun x => if x.depot then x.slots else 0)).sum
  | 0, _ => by simp [depK]
  | k + 1, hk => by
    obtain ⟨i1, i2, i3⟩ := depK_all h k (by omega)
    have hlt : k < l.length := by omega
    have hs := (h.ok _ (List.getElem_mem hlt)).slots
    have hb := h.bases k hlt
    rw [depK_succ hlt, slotsK_succ hlt]
    refine ⟨List.nodup_append.2 ⟨i1, cellsS_nodup _, fun x hx y hy e => ?_⟩, fun x hx => ?_, ?_⟩
    · have := i2 x hx
      have := (cellsS_mem.1 hy).2.1
      omega
    · rcases List.mem_append.1 hx with hx | hx
      · have := i2 x hx; omega
      · have := (cellsS_mem.1 hx).2.2; omega
    · rw [List.length_append, List.take_succ_eq_append_getElem hlt, List.map_append, List.sum_append]
      have := cellsS_length (s := l[k]) (by omega)
      simp only [List.map_cons, List.map_nil, List.sum_cons, List.sum_nil, Int.add_zero]
      omega
theorem openS_all (n : Nat) (x : SpurD) : openS (opens n) x = true := by
  have h : ∀ v, atB (opens n) v = false := fun v => by
    unfold atB opens
    rw [List.getD_eq_getElem?_getD, List.getElem?_replicate]
    split <;> rfl
  unfold openS
  simp [h]
theorem sub_len : ∀ (a b : List Int), a.Nodup → (∀ x ∈ a, x ∈ b) → a.length ≤ b.length
  | [], b, _, _ => by simp
  | x :: a, b, hn, hs => by
    have hn' := List.nodup_cons.1 hn
    have hx := hs x (by simp)
    have := sub_len a (b.erase x) hn'.2 (fun y hy => by
      have hne : y ≠ x := fun e => hn'.1 (by rw [← e]; exact hy)
      exact (List.mem_erase_of_ne hne).2 (hs y (by simp [hy])))
    rw [List.length_erase_of_mem hx] at this
    have hp : 0 < b.length := List.length_pos_of_mem hx
    simp only [List.length_cons]
    omega
/-- A slot is free. -/
theorem free_some {N : NetD} (hs : MadeS N.blocks.length N.spurs) {rb : List Int} (h : (rb.length : Int) < slotsN N) : 0 < (freeK N.spurs rb N.spurs.length).length := by
  refine Nat.pos_of_ne_zero fun h0 => ?_
  obtain ⟨d1, d2, d3⟩ := depK_all hs N.spurs.length (Nat.le_refl _)
  have e : freeK N.spurs rb N.spurs.length = [] := List.eq_nil_of_length_eq_zero h0
  have hsub : ∀ x ∈ depK N.spurs N.spurs.length, x ∈ rb := fun x hx => Classical.byContradiction fun hn => by
    have := freeK_mem.2 ⟨depK_mem.1 hx, hn⟩
    rw [e] at this
    simp at this
  have hle := sub_len _ _ d1 hsub
  have hsl : slotsN N = ((N.spurs.take N.spurs.length).map (fun x => if x.depot then x.slots else 0)).sum := by
    unfold slotsN openSum
    congr 1
    refine List.map_congr_left fun x _ => ?_
    rw [openS_all, Bool.and_true]
  omega
end Go.Proofs.YtpdjcccpohnmcaaDoor
