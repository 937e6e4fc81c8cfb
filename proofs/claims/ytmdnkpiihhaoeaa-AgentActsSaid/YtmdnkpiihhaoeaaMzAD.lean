/- Joined texts. -/
import Derived.Test.YtmdnkpiihhaoeaaMzAB
import Derived.Test.YtmdnkpiihhaoeaaMzAC
import Derived.IntWalk
namespace Go.Proofs.Ytmdnkpiihhaoeaa
open Go Go.RowKit Fl

/-- A call that reports whether P holds. -/
def Exact (P : Prop) (w : World) (e : Ending) (w' : World) : Prop := (∃ z : Bool, e = .returned (.bool z) ∧ (z = true ↔ P)) ∧ Below w.heap.size w w'
theorem Exact.no {P : Prop} {w w' : World} (h : ¬ P) (hb : Below w.heap.size w w') : Exact P w (.returned (.bool false)) w' := ⟨⟨false, rfl, ⟨fun h' => absurd h' Bool.false_ne_true, fun h' => absurd h' h⟩⟩, hb⟩
theorem Exact.yes {P : Prop} {w w' : World} (h : P) (hb : Below w.heap.size w w') : Exact P w (.returned (.bool true)) w' := ⟨⟨true, rfl, ⟨fun _ => h, fun _ => rfl⟩⟩, hb⟩
theorem Exact.use {P : Prop} {w w' : World} {e : Ending} (h : Exact P w e w') : (P ∧ e = .returned (.bool true) ∨ ¬ P ∧ e = .returned (.bool false)) ∧ Below w.heap.size w w' := by
  obtain ⟨⟨z, rfl, hz⟩, hb⟩ := h
  refine ⟨?_, hb⟩
  rcases z with _ | _
  · exact .inr ⟨fun hp => absurd (hz.2 hp) Bool.false_ne_true, rfl⟩
  · exact .inl ⟨hz.1 rfl, rfl⟩
theorem Exact.is {P : Prop} {w w' : World} {b : Bool} (h : b = true ↔ P) (hb : Below w.heap.size w w') : Exact P w (.returned (.bool b)) w' := ⟨⟨b, rfl, h⟩, hb⟩
/-- Lengths that a call can be given. -/
structure NetLen (N : NetD) : Prop where
  blocks : N.blocks.length ≤ 1000000000000000000
  next : N.next.length ≤ 1000000000000000000
  rows : ∀ r ∈ N.next, r.length ≤ 1000000000000000000
  spurs : N.spurs.length ≤ 1000000000000000000
  robots : N.robots.length ≤ 1000000000000000000
  named : ∀ s ∈ namesN N, s.length ≤ maxLen
/-- A block and the lanes from it. -/
structure RowFit (nb k : Nat) (r : List Int) : Prop where
  few : r.length ≤ 4
  sorted : r.Pairwise (· < ·)
  range : ∀ x ∈ r, 0 ≤ x ∧ x < (nb : Int) ∧ x ≠ (k : Int)
structure PlaceFit (b : BlockD) : Prop where
  x : -9999 ≤ b.x ∧ b.x ≤ 9999
  y : -9999 ≤ b.y ∧ b.y ≤ 9999
/-- The blocks and their lanes. -/
structure GridOk (N : NetD) : Prop where
  size : 1 ≤ N.blocks.length ∧ N.blocks.length ≤ 24
  lanes : N.next.length = N.blocks.length
  places : ∀ b ∈ N.blocks, PlaceFit b
  rows : ∀ k (h : k < N.next.length), RowFit N.blocks.length k N.next[k]
/-- A spur at place k. -/
structure SpurFit (nb : Nat) (l : List SpurD) (k : Nat) (s : SpurD) : Prop where
  inn : 0 ≤ s.inn ∧ s.inn < nb
  out : 0 ≤ s.out ∧ s.out < nb
  slots : 1 ≤ s.slots ∧ s.slots ≤ 4
  base : s.base = nb + slotsK l k
structure SpursOk (N : NetD) : Prop where
  few : N.spurs.length ≤ 6
  each : ∀ k (h : k < N.spurs.length), SpurFit N.blocks.length N.spurs k N.spurs[k]
structure RobOk (N : NetD) : Prop where
  few : N.robots.length ≤ 8
  homes : ∀ x ∈ N.robots, inDepot N.spurs x
  once : N.robots.Nodup
/-- The first j vertices of a row are as they must be. -/
def PreRow (nb k : Nat) (r : List Int) (j : Nat) : Prop := (∀ i (h : i < r.length), i < j → 0 ≤ r[i] ∧ r[i] < (nb : Int) ∧ r[i] ≠ (k : Int)) ∧ (∀ i (h : i + 1 < r.length), i + 1 < j → r[i] < r[i + 1])
theorem PreRow.zero (nb k : Nat) (r : List Int) : PreRow nb k r 0 := ⟨fun i h hj => by omega, fun i h hj => by omega⟩
theorem PreRow.step {nb k j : Nat} {r : List Int} (h : PreRow nb k r j) (hj : j < r.length) (h1 : 0 ≤ r[j] ∧ r[j] < (nb : Int) ∧ r[j] ≠ (k : Int)) (h2 : ∀ (h0 : 0 < j), r[j - 1]'(by omega) < r[j]) : PreRow nb k r (j + 1) := by
  refine ⟨fun i hi hij => ?_, fun i hi hij => ?_⟩
  · rcases Nat.lt_succ_iff_lt_or_eq.1 hij with h' | rfl
    · exact h.1 i hi h'
    · exact h1
  · rcases Nat.lt_succ_iff_lt_or_eq.1 hij with h' | h'
    · exact h.2 i hi h'
    · subst h'
      exact h2 (by omega)
theorem adj_sorted {r : List Int} (h : ∀ i (h : i + 1 < r.length), r[i] < r[i + 1]) : r.Pairwise (· < ·) := by
  rw [List.pairwise_iff_getElem]
  intro i j hi hj hij
  induction j with
  | zero => omega
  | succ j ih =>
    rcases Nat.lt_succ_iff_lt_or_eq.1 hij with h' | rfl
    · exact Int.lt_trans (ih (by omega) h') (h j hj)
    · exact h i hj
theorem PreRow.all {nb k : Nat} {r : List Int} (h : PreRow nb k r r.length) (h4 : r.length ≤ 4) : RowFit nb k r :=
  ⟨h4, adj_sorted (fun i hi => h.2 i hi hi), fun x hx => by obtain ⟨i, hi, rfl⟩ := List.mem_iff_getElem.1 hx; exact h.1 i hi hi⟩
theorem RowFit.step {nb k j : Nat} {r : List Int} (h : RowFit nb k r) (hj : j < r.length) : (0 ≤ r[j] ∧ r[j] < (nb : Int) ∧ r[j] ≠ (k : Int)) ∧ ∀ (h0 : 0 < j), r[j - 1]'(by omega) < r[j] :=
  ⟨h.range _ (List.getElem_mem hj), fun h0 => List.pairwise_iff_getElem.1 h.sorted (j - 1) j (by omega) hj (by omega)⟩
theorem GridOk.of {N : NetD} (h1 : 1 ≤ N.blocks.length ∧ N.blocks.length ≤ 24) (h2 : N.next.length = N.blocks.length) (h : ∀ i (h : i < N.blocks.length) (h' : i < N.next.length), PlaceFit N.blocks[i] ∧ RowFit N.blocks.length i N.next[i]) : GridOk N :=
  ⟨h1, h2, fun b hb => by obtain ⟨i, hi, rfl⟩ := List.mem_iff_getElem.1 hb; exact (h i hi (by omega)).1, fun k hk => (h k (by omega) hk).2⟩
theorem rowOk_of {n v : Int} : ∀ (l : List Int) (p : Option Int), l.Pairwise (· < ·) → (∀ x ∈ l, 0 ≤ x ∧ x < n ∧ x ≠ v) → (∀ y, p = some y → ∀ x ∈ l, y < x) → rowOk n v p l = true
  | [], p, _, _, _ => by cases p <;> rfl
  | x :: l, p, hs, hr, hp => by
    rw [List.pairwise_cons] at hs
    unfold rowOk
    rw [rowOk_of l (some x) hs.2 (fun y hy => hr y (List.mem_cons_of_mem _ hy)) (fun y hy z hz => by injection hy with hy; subst hy; exact hs.1 z hz)]
    have h1 : decide (0 ≤ x ∧ x < n ∧ x ≠ v) = true := decide_eq_true (hr x (by simp))
    have h2 : overP p x = true := by
      cases p with
      | none => rfl
      | some y => simpa [overP] using hp y rfl x (by simp)
    simp [h1, h2]
theorem rowsOk_of {n : Int} : ∀ (g : GraphD) (v : Nat), (∀ k (h : k < g.length), rowOk n ((v + k : Nat) : Int) none g[k] = true) → rowsOk n (v : Int) g = true
  | [], _, _ => rfl
  | r :: g, v, h => by
    unfold rowsOk
    have h0 := h 0 (by simp)
    simp only [List.getElem_cons_zero, Nat.add_zero] at h0
    rw [h0, Bool.true_and]
    have := rowsOk_of g (v + 1) (fun k hk => by
      have h1 := h (k + 1) (by simpa using hk)
      rw [List.getElem_cons_succ] at h1
      rw [show v + 1 + k = v + (k + 1) by omega]
      exact h1)
    rwa [show ((v + 1 : Nat) : Int) = (v : Int) + 1 by omega] at this
theorem GridOk.graph {N : NetD} (h : GridOk N) : validG N.next = true := by
  unfold validG
  rw [Bool.and_eq_true]
  refine ⟨decide_eq_true (by rw [h.lanes]; exact h.size.2), ?_⟩
  refine rowsOk_of N.next 0 (fun k hk => ?_)
  have hr := h.rows k hk
  rw [Nat.zero_add]
  exact rowOk_of _ none hr.sorted (fun x hx => by rw [h.lanes]; exact hr.range x hx) (fun y hy => by cases hy)
theorem netOk_iff (N : NetD) : NetOk N ↔ GridOk N ∧ SpursOk N ∧ (∃ s ∈ N.spurs, s.depot = true) ∧ (∀ s ∈ namesN N, name s = true) ∧ (namesN N).Nodup ∧ RobOk N ∧ ConfOk N.queue N.aging N.detours N.patience := by
  constructor
  · intro h
    refine ⟨⟨⟨h.some, h.few⟩, h.lanes, fun b hb => ?_, fun k hk => ⟨h.outs _ (List.getElem_mem hk), validG_sorted' h.graph hk, fun x hx => ?_⟩⟩, ⟨h.spurs6, fun k hk => ?_⟩, h.depot, h.named, h.apart, ⟨h.robots8, h.homes, h.once⟩, h.conf⟩
    · obtain ⟨p1, p2, p3, p4⟩ := h.places b hb
      exact ⟨⟨p1, p2⟩, ⟨p3, p4⟩⟩
    · have := validG_row h.graph hk x hx
      rwa [h.lanes] at this
    · have := h.spurOk _ (List.getElem_mem hk)
      exact ⟨this.inn, this.out, this.slots, h.bases k hk⟩
  · rintro ⟨h1, h2, h3, h4, h5, h6, h7⟩
    exact ⟨h1.size.1, h1.size.2, h1.lanes, fun b hb => ⟨(h1.places b hb).x.1, (h1.places b hb).x.2, (h1.places b hb).y.1, (h1.places b hb).y.2⟩, fun r hr => by obtain ⟨k, hk, rfl⟩ := List.mem_iff_getElem.1 hr; exact (h1.rows k hk).few, h1.graph, h2.few, h4, h5, h6.few, h7,
      fun s hs => by obtain ⟨k, hk, rfl⟩ := List.mem_iff_getElem.1 hs; have := h2.each k hk; exact ⟨this.inn, this.out, this.slots⟩, fun k hk => (h2.each k hk).base, h6.homes, h6.once, h3⟩
end Go.Proofs.Ytmdnkpiihhaoeaa
namespace Go.Proofs.Ytmdnkpiihhaoeaa
open Go Go.RowKit Fl

/-- A spur holds a robot's cell. -/
def holdsR (s : SpurD) (x : Int) : Prop := s.depot = true ∧ s.base ≤ x ∧ x < s.base + s.slots
/-- The first m spurs hold a robot's cell. -/
def HeldTo (l : List SpurD) (x : Int) (m : Nat) : Prop := ∃ j, ∃ h : j < l.length, j < m ∧ holdsR l[j] x
theorem HeldTo.zero {l : List SpurD} {x : Int} : ¬ HeldTo l x 0 := fun ⟨j, _, h, _⟩ => by omega
theorem HeldTo.succ {l : List SpurD} {x : Int} {m : Nat} (h : m < l.length) : HeldTo l x (m + 1) ↔ HeldTo l x m ∨ holdsR l[m] x := by
  constructor
  · rintro ⟨j, hj, hjk, hd⟩
    rcases Nat.lt_succ_iff_lt_or_eq.1 hjk with h' | rfl
    · exact .inl ⟨j, hj, h', hd⟩
    · exact .inr hd
  · rintro (⟨j, hj, hjk, hd⟩ | hd)
    · exact ⟨j, hj, by omega, hd⟩
    · exact ⟨m, h, by omega, hd⟩
theorem HeldTo.all {l : List SpurD} {x : Int} : HeldTo l x l.length ↔ inDepot l x := by
  constructor
  · rintro ⟨j, h, _, hd⟩; exact ⟨_, List.getElem_mem h, hd⟩
  · rintro ⟨s, hs, hd⟩
    obtain ⟨j, hj, rfl⟩ := List.mem_iff_getElem.1 hs
    exact ⟨j, hj, hj, hd⟩
/-- The first k robots are as they must be. -/
def PreRobs (N : NetD) (k : Nat) : Prop := (∀ i (h : i < N.robots.length), i < k → inDepot N.spurs N.robots[i]) ∧ ∀ i (h : i < N.robots.length), i < k → N.robots[i] ∉ N.robots.take i
theorem PreRobs.zero (N : NetD) : PreRobs N 0 := ⟨fun i h hj => by omega, fun i h hj => by omega⟩
theorem PreRobs.step {N : NetD} {k : Nat} (h : PreRobs N k) (hk : k < N.robots.length) (h1 : inDepot N.spurs N.robots[k]) (h2 : N.robots[k] ∉ N.robots.take k) : PreRobs N (k + 1) := by
  refine ⟨fun i hi hik => ?_, fun i hi hik => ?_⟩
  · rcases Nat.lt_succ_iff_lt_or_eq.1 hik with h' | rfl
    · exact h.1 i hi h'
    · exact h1
  · rcases Nat.lt_succ_iff_lt_or_eq.1 hik with h' | rfl
    · exact h.2 i hi h'
    · exact h2
theorem PreRobs.all {N : NetD} (h : PreRobs N N.robots.length) (h8 : N.robots.length ≤ 8) : RobOk N := by
  refine ⟨h8, fun x hx => ?_, ?_⟩
  · obtain ⟨i, hi, rfl⟩ := List.mem_iff_getElem.1 hx
    exact h.1 i hi hi
  · refine List.pairwise_iff_getElem.2 (fun i j hi hj hij e => h.2 j hj hj ?_)
    rw [← e]
    exact List.mem_iff_getElem.2 ⟨i, by rw [List.length_take]; omega, by rw [List.getElem_take]⟩
theorem RobOk.at_ {N : NetD} (h : RobOk N) {k : Nat} (hk : k < N.robots.length) : inDepot N.spurs N.robots[k] ∧ N.robots[k] ∉ N.robots.take k := by
  refine ⟨h.homes _ (List.getElem_mem hk), fun hm => ?_⟩
  obtain ⟨j, hj, e⟩ := List.mem_iff_getElem.1 hm
  rw [List.getElem_take] at e
  have hjk : j < k := by rw [List.length_take] at hj; omega
  exact List.pairwise_iff_getElem.1 h.once j k (by omega) hk hjk e
end Go.Proofs.Ytmdnkpiihhaoeaa
namespace Go.Proofs.Ytmdnkpiihhaoeaa
open Go Go.RowKit Fl

theorem has_q (A : Option Addr) (c i : Nat) (l : List Int) (x : Int) (w : World) (hh : Holds w A (l.map Iv)) (hl : l.length ≤ 1000000000000000000) (hi : i ≤ l.length) :
    Calls Try.prog 27 #[.slice A i c, .int .i64 x] w fun e w' => e = .returned (.bool (decide (x ∈ l.take i))) ∧ w' = w := by
  have e : (l.take i).length = i := by rw [List.length_take]; omega
  have h2 : Holds w A ((l.take i).map Iv) := by
    rcases hh with h | ⟨b, o, hA, hb, hc⟩
    · left; have : l = [] := by simpa using h
      subst this; simp
    · right
      refine ⟨b, o, hA, hb, fun j hj => ?_⟩
      rw [hc j (by simp at hj ⊢; omega)]
      simp
  have h3 := has_c A c (l.take i) x w h2 (by omega)
  rw [e] at h3
  exact h3.mono fun e w' ⟨h1, h2⟩ => ⟨h1, h2.symm⟩
end Go.Proofs.Ytmdnkpiihhaoeaa
namespace Go.Proofs.Ytmdnkpiihhaoeaa
open Go Go.RowKit Fl

set_option maxRecDepth 100000 in
set_option maxHeartbeats 8000000 in
theorem validNet_c (Ab An As Ar : Option Addr) (cb cn cs cr : Nat) (N : NetD) (w : World) (hN : NetAt w Ab An As Ar N) (hok : NetOk N) (hcr : N.robots.length ≤ cr) :
    Calls Try.prog 64 #[.agg #[.slice Ab N.blocks.length cb, .slice An N.next.length cn, .slice As N.spurs.length cs, .slice Ar N.robots.length cr, Iv N.queue, Iv N.aging, Iv N.detours, Iv N.patience]] w fun e w' => e = .returned (.bool true) ∧ Below w.heap.size w w' := by
  have HN := Lib.hid hN
  have HOk := Lib.hid hok
  have h24 := hok.few
  have h6 := hok.spurs6
  have h8 := hok.robots8
  have CB := Lib.hid (fun W (hW : Below w.heap.size w W) => blocks_c Ab An As Ar cb cn cs cr N W (hN.keep hW) hok)
  have CN := Lib.hid (fun W (hW : Below w.heap.size w W) => names_c Ab An As Ar cb cn cs cr N W (hN.keep hW) hok)
  have CC := Lib.hid (fun W => configured_c N.queue N.aging N.detours N.patience W hok.conf)
  have hB0 : Below w.heap.size w (w.alloc (.cells (netCells Ab An As Ar cb cn cs cr N) 29)) := (Below.refl _ _).alloc (Nat.le_refl _) _
  have hX0 := boxAt_of (heap_alloc_new w (.cells (netCells Ab An As Ar cb cn cs cr N) 29))
  have hsz0 : (w.alloc (.cells (netCells Ab An As Ar cb cn cs cr N) 29)).heap.size = w.heap.size + 1 := by simp
  have HX := Lib.hid hX0
  obtain ⟨x0, x1, x2, x3, x4, x5, x6, x7⟩ := hX0
  clear hN hok
  go_enter Try.func64, Try.ntmps64
  go_wp2_with fail
  generalize w.alloc (.cells (netCells Ab An As Ar cb cn cs cr N) 29) = w0 at *
  have HB0 := Lib.hid hB0
  have hsz1 : w.heap.size < w0.heap.size := by omega
  clear hB0 hsz0
  refine (CB.out w0 HB0.out).mono ?_
  rintro e w1 ⟨rfl, hb1⟩
  have HB1 := Lib.hid hb1
  have HBw1 := Lib.hid (HB0.out.trans (hb1.mono (Nat.le_of_lt hsz1)))
  clear x0 x1 x2 x3 x4 x5 x6 x7 hb1 CB
  obtain ⟨x0, x1, x2, x3, x4, x5, x6, x7⟩ := HX.out.keep hsz1 HB1.out
  go_wp2_with fail
  refine (CN.out w1 HBw1.out).mono ?_
  rintro e w2 ⟨rfl, hb2⟩
  have HB2 := Lib.hid (HB1.out.trans (hb2.mono HB1.out.size))
  have HBw2 := Lib.hid (HBw1.out.trans (hb2.mono HBw1.out.size))
  clear x0 x1 x2 x3 x4 x5 x6 x7 hb2 CN HB1 HBw1
  obtain ⟨x0, x1, x2, x3, x4, x5, x6, x7⟩ := HX.out.keep hsz1 HB2.out
  go_wp2_with fail
  refine (CC.out w2).mono ?_
  rintro e w3 ⟨rfl, hb3⟩
  have HB3 := Lib.hid (HB2.out.trans (hb3.mono HB2.out.size))
  have HBw3 := Lib.hid (HBw2.out.trans (hb3.mono HBw2.out.size))
  clear x0 x1 x2 x3 x4 x5 x6 x7 hb3 CC HB2 HBw2
  obtain ⟨x0, x1, x2, x3, x4, x5, x6, x7⟩ := HX.out.keep hsz1 HB3.out
  go_wp2
  have HW := Lib.hid (fun W (hW : Below w0.heap.size w0 W) => HX.out.keep hsz1 hW)
  have HWN := Lib.hid (fun W (hW : Below w0.heap.size w0 W) => HB0.out.trans (hW.mono (Nat.le_of_lt hsz1)))
  have hb3 := HB3.out
  clear x0 x1 x2 x3 x4 x5 x6 x7 HB3 HBw3 HX
  go_loopw [3, 4, 5] (fun bv dv i wr => ∃ (k : Nat) (z y : Int), i = .int .i64 k ∧ k ≤ N.spurs.length ∧ bv = .int .i64 z ∧ Hid (z = N.blocks.length + slotsK N.spurs k) ∧ 0 ≤ z ∧ z ≤ 24 + 4 * k ∧ dv = .int .i64 y ∧ 0 ≤ y ∧ y ≤ k ∧ Hid (∀ j (h : j < N.spurs.length), j < k → N.spurs[j].depot = true → 0 < y) ∧ Below w0.heap.size w0 wr) (fun _ _ i _ => N.spurs.length - (intOf i).toNat)
  case atStart => exact ⟨0, _, 0, rfl, Nat.zero_le _, rfl, Lib.hid (by simp [slotsK]), by omega, by omega, rfl, by omega, by omega, Lib.hid (fun j h hj => by omega), hb3⟩
  case round =>
    clear hb3
    obtain ⟨k, z, y, rfl, hk, rfl, HZ, hz0, hz1, rfl, hy0, hy1, HY, hb⟩ := hrel
    obtain ⟨x0, x1, x2, x3, x4, x5, x6, x7⟩ := HW.out wr hb
    clear x1 x4 x5 x6 x7
    have hbw := HWN.out wr hb
    by_cases hlt : k < N.spurs.length
    · obtain ⟨b, o, rfl, hbs, hs⟩ := HN.out.spurs.spur hlt
      obtain ⟨c0, c1, c2, c3, c4, c5⟩ := hs.keep hbs hbw
      obtain ⟨⟨i0, i1⟩, ⟨o0, o1⟩, s0, s1⟩ := HOk.out.spurOk _ (List.getElem_mem hlt)
      have hbase := HOk.out.bases k hlt
      have HZ2 := Lib.hid (slotsK_succ hlt)
      have hzb : N.spurs[k].base = z := by rw [hbase, HZ.out]
      have HD : Hid (∀ y', (N.spurs[k].depot = true → 0 < y') → y ≤ y' → ∀ j (h : j < N.spurs.length), j < k + 1 → N.spurs[j].depot = true → 0 < y') := Lib.hid (fun y' h1 h2 j h hj hd => by
        rcases Nat.lt_succ_iff_lt_or_eq.1 hj with h' | rfl
        · have := HY.out j h h' hd; omega
        · exact h1 hd)
      have x0a : ∀ ob, (wr.alloc ob).cell? ⟨w.heap.size, 0, none⟩ = some (.slice Ab N.blocks.length cb) := fun ob => (HW.out _ (hb.alloc hb.size ob)).c0
      clear hs hbase HY
      generalize N.spurs[k] = s at *
      obtain ⟨nm, dp, i, ot, sl, bs⟩ := s
      simp only at c0 c1 c2 c3 c4 c5 i0 i1 o0 o1 s0 s1 hzb HZ2 HD
      subst hzb
      have hbne : (bs != bs) = false := by simp
      have hb2 := fun ob => hb.alloc hb.size ob
      have HB2 := Lib.hid hb2
      clear hb2
      rcases dp with _ | _
      · go_wp2
        go_roundw
        case rel => exact ⟨k + 1, bs + sl, y, by go_num, by omega, rfl, Lib.hid (by rw [HZ2.out, HZ.out]; omega), by omega, by omega, rfl, hy0, by omega, Lib.hid (HD.out y (by simp) (by omega)), HB2.out _⟩
        case measure => simp [intOf]; omega
      · go_wp2
        go_roundw
        case rel => exact ⟨k + 1, bs + sl, y + 1, by go_num, by omega, rfl, Lib.hid (by rw [HZ2.out, HZ.out]; omega), by omega, by omega, rfl, by omega, by omega, Lib.hid (HD.out (y + 1) (by intro _; omega) (by omega)), HB2.out _⟩
        case measure => simp [intOf]; omega
    · have hypos : 0 < y := by
        obtain ⟨s, hs, hd⟩ := HOk.out.depot
        obtain ⟨j, hj, rfl⟩ := List.mem_iff_getElem.1 hs
        exact HY.out j hj (by omega) hd
      clear HY HZ
      go_wp2
      clear x0 x2 x3 hbw
      go_loopw [7] (fun i wr => ∃ (k : Nat), i = .int .i64 k ∧ k ≤ N.robots.length ∧ Below w0.heap.size w0 wr) (fun i _ => N.robots.length - (intOf i).toNat)
      case atStart => exact ⟨0, rfl, Nat.zero_le _, hb⟩
      case round =>
        clear hb
        obtain ⟨k, rfl, hk, hb⟩ := hrel
        obtain ⟨x0, x1, x2, x3, x4, x5, x6, x7⟩ := HW.out wr hb
        clear x0 x1 x4 x5 x6 x7
        have hbw := HWN.out wr hb
        by_cases hlt : k < N.robots.length
        · obtain ⟨br, or_, rfl, er0⟩ := HN.out.robots.iv hlt
          have hbr : br < w.heap.size := World.block_lt_of_cell? _ _ er0
          have HER : Hid (∀ W, Below w.heap.size w W → W.cell? ⟨br, or_ + k, none⟩ = some (.int .i64 N.robots[k])) := Lib.hid (fun W hW => (hW.cell (p := ⟨br, or_ + k, none⟩) hbr).trans er0)
          have HHm := Lib.hid (HOk.out.homes _ (List.getElem_mem hlt))
          have HNd : Hid (decide (N.robots[k] ∈ N.robots.take k) = false) := Lib.hid (by
            rw [decide_eq_false_iff_not]
            intro hmem
            obtain ⟨j, hj, e⟩ := List.mem_iff_getElem.1 hmem
            rw [List.getElem_take] at e
            have hjk : j < k := by rw [List.length_take] at hj; omega
            have := List.pairwise_iff_getElem.1 HOk.out.once j k (by omega) hlt hjk
            exact this e)
          have HHas := Lib.hid (fun W (hW : Below w.heap.size w W) => has_q (some ⟨br, or_, none⟩) cr k N.robots N.robots[k] W (HN.out.robots.keep hW) (by omega) (by omega))
          rw [HNd.out] at HHas
          clear er0 HNd
          generalize N.robots[k] = rb at *
          go_wp2
          clear x2 x3
          go_loopw [8, 9] (fun okv j wr => ∃ (m : Nat) (okb : Bool), j = .int .i64 m ∧ m ≤ N.spurs.length ∧ okv = .bool okb ∧ Hid (okb = true ∨ ∀ j (h : j < N.spurs.length), j < m → ¬ holdsR N.spurs[j] rb) ∧ Below w0.heap.size w0 wr) (fun _ j _ => N.spurs.length - (intOf j).toNat)
          case atStart => exact ⟨0, false, rfl, Nat.zero_le _, rfl, Lib.hid (.inr fun j h hj => by omega), hb⟩
          case round =>
            clear hb hbw
            obtain ⟨m, okb, rfl, hm, rfl, HK, hb⟩ := hrel
            obtain ⟨x0, x1, x2, x3, x4, x5, x6, x7⟩ := HW.out wr hb
            clear x0 x1 x4 x5 x6 x7
            have hbw := HWN.out wr hb
            by_cases hmt : m < N.spurs.length
            · obtain ⟨b, o, rfl, hbs, hs⟩ := HN.out.spurs.spur hmt
              obtain ⟨c0, c1, c2, c3, c4, c5⟩ := hs.keep hbs hbw
              obtain ⟨_, _, s0, s1⟩ := HOk.out.spurOk _ (List.getElem_mem hmt)
              have hsb := slotsK_bounds (l := N.spurs) (fun s hs => by have := (HOk.out.spurOk s hs).slots; omega) m (by omega)
              have hbase := HOk.out.bases m hmt
              have hbb : 0 ≤ N.spurs[m].base ∧ N.spurs[m].base ≤ 100 := by omega
              have HK2 : Hid (∀ ok', (ok' = true ∨ okb = ok' ∧ ¬ holdsR N.spurs[m] rb) → ok' = true ∨ ∀ j (h : j < N.spurs.length), j < m + 1 → ¬ holdsR N.spurs[j] rb) := Lib.hid (fun ok' h => by
                rcases h with h | ⟨rfl, h⟩
                · exact .inl h
                · rcases HK.out with h2 | h2
                  · exact .inl h2
                  · refine .inr fun j hj hjm => ?_
                    rcases Nat.lt_succ_iff_lt_or_eq.1 hjm with h' | rfl
                    · exact h2 j hj h'
                    · exact h)
              have x3a : ∀ ob, (wr.alloc ob).cell? ⟨w.heap.size, 3, none⟩ = some (.slice (some ⟨br, or_, none⟩) N.robots.length cr) := fun ob => (HW.out _ (hb.alloc hb.size ob)).c3
              have era : ∀ ob, (wr.alloc ob).cell? ⟨br, or_ + k, none⟩ = some (.int .i64 rb) := fun ob => HER.out _ (hbw.alloc hbw.size ob)
              clear hs hsb hbase HK
              generalize N.spurs[m] = s at *
              obtain ⟨nm, dp, i, ot, sl, bs⟩ := s
              simp only at c0 c1 c2 c3 c4 c5 s0 s1 hbb HK2
              obtain ⟨hbb0, hbb1⟩ := hbb
              have hw1 : IntKind.i64.wrap (bs + sl) = bs + sl := IntWalk.i64_in _ (by omega)
              have hb2 := fun ob => hb.alloc hb.size ob
              have HB2 := Lib.hid hb2
              clear hb2
              have hcase : okb = true ∨ okb = false ∧ dp = false ∨ okb = false ∧ dp = true ∧ decide (bs ≤ rb) = false ∨ okb = false ∧ dp = true ∧ decide (bs ≤ rb) = true ∧ decide (rb < bs + sl) = false ∨ okb = false ∧ dp = true ∧ decide (bs ≤ rb) = true ∧ decide (rb < bs + sl) = true := by
                rcases okb with _ | _ <;> rcases dp with _ | _ <;> rcases decide (bs ≤ rb) with _ | _ <;> rcases decide (rb < bs + sl) with _ | _ <;> simp
              rcases hcase with rfl | ⟨rfl, rfl⟩ | ⟨rfl, rfl, hd1⟩ | ⟨rfl, rfl, hd1, hd2⟩ | ⟨rfl, rfl, hd1, hd2⟩
              · clear HK2
                go_wp2
                go_quiet (fail)
                go_wp2
                go_roundw
                case rel => exact ⟨m + 1, true, by go_num, by omega, rfl, Lib.hid (.inl rfl), below_drewN (HB2.out _) _⟩
                case measure => simp [intOf]; omega
              · have HK3 := Lib.hid (HK2.out false (.inr ⟨rfl, by rintro ⟨h, _⟩; cases h⟩))
                clear HK2
                go_wp2
                go_quiet (fail)
                go_wp2
                go_roundw
                case rel => exact ⟨m + 1, false, by go_num, by omega, rfl, HK3, below_drewN (HB2.out _) _⟩
                case measure => simp [intOf]; omega
              · have HK3 := Lib.hid (HK2.out false (.inr ⟨rfl, by rintro ⟨_, h, _⟩; rw [decide_eq_false_iff_not] at hd1; exact hd1 h⟩))
                clear HK2
                go_wp2
                go_quiet (fail)
                go_wp2
                go_roundw
                case rel => exact ⟨m + 1, false, by go_num, by omega, rfl, HK3, below_drewN (HB2.out _) _⟩
                case measure => simp [intOf]; omega
              · have HK3 := Lib.hid (HK2.out false (.inr ⟨rfl, by rintro ⟨_, _, h⟩; rw [decide_eq_false_iff_not] at hd2; exact hd2 h⟩))
                clear HK2
                go_wp2
                go_quiet (fail)
                go_wp2
                go_roundw
                case rel => exact ⟨m + 1, false, by go_num, by omega, rfl, HK3, below_drewN (HB2.out _) _⟩
                case measure => simp [intOf]; omega
              · clear HK2
                go_wp2
                go_quiet (fail)
                go_wp2
                go_roundw
                case rel => exact ⟨m + 1, true, by go_num, by omega, rfl, Lib.hid (.inl rfl), below_drewN (HB2.out _) _⟩
                case measure => simp [intOf]; omega
            · have hokt : okb = true := by
                rcases HK.out with h | h
                · exact h
                · exfalso
                  obtain ⟨s, hs, h1, h2, h3⟩ := HHm.out
                  obtain ⟨j, hj, rfl⟩ := List.mem_iff_getElem.1 hs
                  exact h j hj (by omega) ⟨h1, h2, h3⟩
              subst hokt
              have er := HER.out wr hbw
              have hkc : k ≤ cr := by omega
              have HHd := Lib.hid (fun n => HHas.out (wr.drewN n) (below_drewN hbw n))
              clear HK
              go_wp2
              go_quiet ((go_at_call 27; exact Calls.quiet_of_same (HHd.out _)))
              go_wp2
              go_roundw
              case rel => exact ⟨k + 1, by go_num, by omega, below_drewN hb _⟩
              case measure => simp [intOf]; omega
        · go_wp2
          go_ret
          exact ⟨gr_bool (by simp), hbw⟩
end Go.Proofs.Ytmdnkpiihhaoeaa
namespace Go.Proofs.Ytmdnkpiihhaoeaa
open Go Go.RowKit Fl

theorem between_t (n lo hi : Int) (w : World) (h1 : lo ≤ n) (h2 : n ≤ hi) : Calls Try.prog 89 #[.int .i64 n, .int .i64 lo, .int .i64 hi] w fun e w' => e = .returned (.bool true) ∧ w = w' := by
  go_enter Try.func89, Try.ntmps89
  go_wp2
  go_ret
  exact ⟨rfl, rfl⟩
theorem between_f (n lo hi : Int) (w : World) (h : ¬ (lo ≤ n ∧ n ≤ hi)) : Calls Try.prog 89 #[.int .i64 n, .int .i64 lo, .int .i64 hi] w fun e w' => e = .returned (.bool false) ∧ w = w' := by
  by_cases h1 : lo ≤ n
  · have h2 : ¬ n ≤ hi := fun h3 => h ⟨h1, h3⟩
    clear h
    go_enter Try.func89, Try.ntmps89
    go_wp2
    go_ret
    exact ⟨rfl, rfl⟩
  · clear h
    go_enter Try.func89, Try.ntmps89
    go_wp2
    go_ret
    exact ⟨rfl, rfl⟩
end Go.Proofs.Ytmdnkpiihhaoeaa
namespace Go.Proofs.Ytmdnkpiihhaoeaa
open Go Go.RowKit Fl

set_option maxHeartbeats 2000000 in
theorem devConfig_c (q a d p : Int) (w : World) (h : ConfOk q a d p) :
    Calls Try.prog 84 #[.agg #[Iv q, Iv a, Iv d, Iv p]] w fun e w' => e = .returned (.bool true) ∧ Below w.heap.size w w' := by
  obtain ⟨⟨h1, h2⟩, ⟨h3, h4⟩, ⟨h5, h6⟩, ⟨h7, h8⟩⟩ := h
  have C1 := Lib.hid (fun W => between_t q 1 8 W h1 h2)
  have C2 := Lib.hid (fun W => between_t a 0 4 W h3 h4)
  have C3 := Lib.hid (fun W => between_t d 0 3 W h5 h6)
  have C4 := Lib.hid (fun W => between_t p 1 16 W h7 h8)
  have hB0 := Lib.hid ((Below.refl w.heap.size w).alloc (Nat.le_refl _) (.cells #[Iv q, Iv a, Iv d, Iv p] 27))
  clear h1 h2 h3 h4 h5 h6 h7 h8
  go_enter Try.func84, Try.ntmps84
  go_wp2_with fail
  refine (C1.out _).mono ?_
  rintro e w1 ⟨rfl, rfl⟩
  go_wp2_with fail
  refine (C2.out _).mono ?_
  rintro e w1 ⟨rfl, rfl⟩
  go_wp2_with fail
  refine (C3.out _).mono ?_
  rintro e w1 ⟨rfl, rfl⟩
  go_wp2_with fail
  refine (C4.out _).mono ?_
  rintro e w1 ⟨rfl, rfl⟩
  go_wp2
  go_ret
  exact ⟨rfl, hB0.out⟩
theorem Holds.iv' {w : World} {A : Option Addr} {l : List Int} (h : Holds w A (l.map Iv)) {k : Nat} (hk : k < l.length) : ∃ b o, A = some ⟨b, o, none⟩ ∧ w.cell? ⟨b, o + k, none⟩ = some (Iv l[k]) := by
  obtain ⟨b, o, hA, _, hc⟩ := h.at_ (by rw [List.length_map]; omega)
  have h1 := hc k (by rw [List.length_map]; exact hk)
  rw [List.getElem_map] at h1
  exact ⟨b, o, hA, h1⟩
set_option maxRecDepth 100000 in
set_option maxHeartbeats 4000000 in
theorem validNext_c (A : Option Addr) (c k n : Nat) (r : List Int) (w : World) (hh : Holds w A (r.map Iv)) (h4 : r.length ≤ 4) (hs : r.Pairwise (· < ·)) (hr : ∀ x ∈ r, 0 ≤ x ∧ x < (n : Int) ∧ x ≠ (k : Int)) :
    Calls Try.prog 91 #[.slice A r.length c, .int .i64 k, .int .i64 n] w fun e w' => e = .returned (.bool true) ∧ w = w' := by
  have HH := Lib.hid hh
  have HS := Lib.hid hs
  have HR := Lib.hid hr
  clear hh hs hr
  go_enter Try.func91, Try.ntmps91
  go_wp2
  go_loop [7, 15] (fun l i => ∃ (j : Nat) (z : Int), i = .int .i64 j ∧ l = .int .i64 z ∧ j ≤ r.length ∧ Hid (∀ (h : j < r.length), z < r[j])) (fun _ i => r.length - (intOf i).toNat)
  case atStart => exact ⟨0, -1, rfl, rfl, Nat.zero_le _, Lib.hid (fun h => by have := HR.out r[0] (List.getElem_mem h); omega)⟩
  case round =>
    obtain ⟨j, z, rfl, rfl, hj, HZ⟩ := hrel
    by_cases hlt : j < r.length
    · obtain ⟨b, o, rfl, e1⟩ := HH.out.iv' hlt
      obtain ⟨p1, p2, p3⟩ := HR.out r[j] (List.getElem_mem hlt)
      have hz := HZ.out hlt
      have HZ2 : Hid (∀ (h : j + 1 < r.length), r[j] < r[j + 1]) := Lib.hid (fun h => List.pairwise_iff_getElem.1 HS.out j (j + 1) hlt h (by omega))
      clear HZ
      generalize r[j] = x at *
      have q1 : ¬ x ≤ z := by omega
      have q2 : ¬ (n : Int) ≤ x := by omega
      have q3 : (x == (k : Int)) = false := by simpa using p3
      clear p3
      go_wp2
      go_round
      case rel => exact ⟨j + 1, x, by go_num, rfl, by omega, HZ2⟩
      case measure => simp [intOf]; omega
    · obtain rfl : j = r.length := by omega
      go_wp2
      go_ret
      exact ⟨rfl, rfl⟩
/-- The depot of a robot's cell. -/
theorem depot_first {l : List SpurD} {x : Int} (h : inDepot l x) : ∃ (k : Nat) (hk : k < l.length), l[k].depot = true ∧ l[k].base ≤ x ∧ x < l[k].base + l[k].slots ∧ ∀ j (hj : j < k), ¬ (l[j].depot = true ∧ l[j].base ≤ x ∧ x < l[j].base + l[j].slots) := by
  induction l with
  | nil => obtain ⟨s, hs, _⟩ := h; cases hs
  | cons a l ih =>
    by_cases ha : a.depot = true ∧ a.base ≤ x ∧ x < a.base + a.slots
    · exact ⟨0, by simp, ha.1, ha.2.1, ha.2.2, fun j hj => by omega⟩
    · have h' : inDepot l x := by
        obtain ⟨s, hs, h1⟩ := h
        rcases List.mem_cons.1 hs with rfl | hs
        · exact absurd h1 ha
        · exact ⟨s, hs, h1⟩
      obtain ⟨k, hk, h1, h2, h3, h4⟩ := ih h'
      refine ⟨k + 1, by simpa using hk, h1, h2, h3, fun j hj => ?_⟩
      cases j with
      | zero => exact ha
      | succ j => exact h4 j (by omega)
set_option maxRecDepth 100000 in
set_option maxHeartbeats 4000000 in
theorem depotOf_c (Ab An As Ar : Option Addr) (cb cn cs cr : Nat) (N : NetD) (x : Int) (w : World) (hN : NetAt w Ab An As Ar N) (h6 : N.spurs.length ≤ 6) (hb : ∀ s ∈ N.spurs, (0 ≤ s.slots ∧ s.slots ≤ 4) ∧ 0 ≤ s.base ∧ s.base ≤ 100) (hx : inDepot N.spurs x) :
    Calls Try.prog 93 #[.agg #[.slice Ab N.blocks.length cb, .slice An N.next.length cn, .slice As N.spurs.length cs, .slice Ar N.robots.length cr, Iv N.queue, Iv N.aging, Iv N.detours, Iv N.patience], .int .i64 x] w fun e w' => (∃ (k : Nat) (hk : k < N.spurs.length), N.spurs[k].depot = true ∧ N.spurs[k].base ≤ x ∧ x < N.spurs[k].base + N.spurs[k].slots ∧ e = .returned (.tuple #[Sv N.spurs[k].name, .int .i64 (x - N.spurs[k].base + 1), .bool true])) ∧ Below w.heap.size w w' := by
  obtain ⟨k0, hk0, d1, d2, d3, d4⟩ := depot_first hx
  have HS := Lib.hid hN.spurs
  have HB := Lib.hid hb
  have HD := Lib.hid (show N.spurs[k0].depot = true ∧ N.spurs[k0].base ≤ x ∧ x < N.spurs[k0].base + N.spurs[k0].slots from ⟨d1, d2, d3⟩)
  have HN4 := Lib.hid d4
  have hxb : 0 ≤ x ∧ x ≤ 200 := by have := hb _ (List.getElem_mem hk0); omega
  have hB0 := Lib.hid ((Below.refl w.heap.size w).alloc (Nat.le_refl _) (.cells (netCells Ab An As Ar cb cn cs cr N) 29))
  obtain ⟨_, _, y2, _⟩ := boxAt_of (heap_alloc_new w (.cells (netCells Ab An As Ar cb cn cs cr N) 29))
  clear hN hb hx d1 d2 d3 d4
  go_enter Try.func93, Try.ntmps93
  go_wp2
  generalize w.alloc (.cells (netCells Ab An As Ar cb cn cs cr N) 29) = w0 at *
  go_loopw [12] (fun i wr => ∃ (j : Nat), i = .int .i64 j ∧ j ≤ k0 ∧ Hid (Below w.heap.size w wr)) (fun i _ => N.spurs.length - (intOf i).toNat)
  case atStart => exact ⟨0, rfl, Nat.zero_le _, hB0⟩
  case round =>
    obtain ⟨j, rfl, hj, HBw⟩ := hrel
    have hjl : j < N.spurs.length := by omega
    obtain ⟨b, o, rfl, hbl, hs⟩ := HS.out.spur hjl
    obtain ⟨c0, c1, c2, c3, c4, c5⟩ := hs.keep hbl HBw.out
    have HBa : Hid (∀ ob, Below w.heap.size w (wr.alloc ob)) := Lib.hid (fun ob => HBw.out.alloc HBw.out.size ob)
    obtain ⟨⟨s1, s2⟩, s3, s4⟩ := HB.out _ (List.getElem_mem hjl)
    have HSj : Hid (∃ s, s = N.spurs[j]) := Lib.hid ⟨_, rfl⟩
    rcases Nat.lt_or_ge j k0 with hlt | hge
    · have hnot := HN4.out j hlt
      clear hs
      generalize N.spurs[j] = s at *
      obtain ⟨nm, dp, si, so, sw, sb⟩ := s
      simp only at c0 c1 c2 c3 c4 c5 s1 s2 s3 s4 hnot
      have hw1 : IntKind.i64.wrap (sb + sw) = sb + sw := IntWalk.i64_in _ (by omega)
      have hw2 : IntKind.i64.wrap (sb + sw - 1) = sb + sw - 1 := IntWalk.i64_in _ (by omega)
      rcases dp with _ | _
      · clear hnot
        go_wp2
        go_roundw
        case rel => exact ⟨j + 1, by go_num, by omega, Lib.hid (HBa.out _)⟩
        case measure => simp [intOf]; omega
      · have hnb : ¬ (sb ≤ x ∧ x ≤ sb + sw - 1) := fun h => hnot ⟨rfl, h.1, by omega⟩
        have CB := Lib.hid (fun W => between_f x sb (sb + sw - 1) W hnb)
        clear hnot hnb
        go_wp2_with fail
        refine (CB.out _).mono ?_
        rintro e w1 ⟨rfl, rfl⟩
        go_wp2
        go_roundw
        case rel => exact ⟨j + 1, by go_num, by omega, Lib.hid (HBa.out _)⟩
        case measure => simp [intOf]; omega
    · obtain rfl : j = k0 := by omega
      have HRes : Hid (∀ (e : Ending), e = .returned (.tuple #[Sv N.spurs[j].name, .int .i64 (x - N.spurs[j].base + 1), .bool true]) → ∃ (k : Nat) (hk : k < N.spurs.length), N.spurs[k].depot = true ∧ N.spurs[k].base ≤ x ∧ x < N.spurs[k].base + N.spurs[k].slots ∧ e = .returned (.tuple #[Sv N.spurs[k].name, .int .i64 (x - N.spurs[k].base + 1), .bool true])) := Lib.hid (fun e h => ⟨j, hjl, HD.out.1, HD.out.2.1, HD.out.2.2, h⟩)
      obtain ⟨d1, d2, d3⟩ := HD.out
      clear hs HD HN4
      generalize N.spurs[j] = s at *
      obtain ⟨nm, dp, si, so, sw, sb⟩ := s
      simp only at c0 c1 c2 c3 c4 c5 s1 s2 s3 s4 d1 d2 d3 HRes
      subst d1
      have hw1 : IntKind.i64.wrap (sb + sw) = sb + sw := IntWalk.i64_in _ (by omega)
      have hw2 : IntKind.i64.wrap (sb + sw - 1) = sb + sw - 1 := IntWalk.i64_in _ (by omega)
      have hw3 : IntKind.i64.wrap (x - sb) = x - sb := IntWalk.i64_in _ (by omega)
      have hw4 : IntKind.i64.wrap (x - sb + 1) = x - sb + 1 := IntWalk.i64_in _ (by omega)
      have CB := Lib.hid (fun W => between_t x sb (sb + sw - 1) W d2 (by omega))
      clear d2 d3
      go_wp2_with fail
      refine (CB.out _).mono ?_
      rintro e w1 ⟨rfl, rfl⟩
      go_wp2_with fail
      go_quiet (fail)
      go_wp2
      go_ret3
      exact ⟨HRes.out _ rfl, below_drewN (HBa.out _) _⟩
end Go.Proofs.Ytmdnkpiihhaoeaa
