/- Networks: their data, what makes one valid, and how they lie in memory. -/
import Derived.Test.YtjbhmeeebacnpaaFdSpec
import Derived.Test.YtjbhmeeebacnpaaGrApp
namespace Go.Proofs.Ytjbhmeeebacnpaa
open Go Go.RowKit Fl

structure BlockD where
  name : List UInt8
  x : Int
  y : Int
structure SpurD where
  name : List UInt8
  depot : Bool
  inn : Int
  out : Int
  slots : Int
  base : Int
structure NetD where
  blocks : List BlockD
  next : GraphD
  spurs : List SpurD
  robots : List Int
  queue : Int
  aging : Int
  detours : Int
  patience : Int
abbrev Sv (l : List UInt8) : Value := .string ⟨l.toArray⟩
def namesN (N : NetD) : List (List UInt8) := N.blocks.map (·.name) ++ N.spurs.map (·.name)
/-- The slots of the first k spurs. -/
def slotsK (l : List SpurD) (k : Nat) : Int := ((l.take k).map (·.slots)).sum
theorem slotsK_succ {l : List SpurD} {k : Nat} (h : k < l.length) : slotsK l (k + 1) = slotsK l k + l[k].slots := by
  unfold slotsK
  rw [List.take_succ_eq_append_getElem h, List.map_append, List.sum_append]
  simp only [List.map_cons, List.map_nil, List.sum_cons, List.sum_nil, Int.add_zero]
/-- A robot's cell lies in a depot. -/
def inDepot (l : List SpurD) (x : Int) : Prop := ∃ s ∈ l, s.depot = true ∧ s.base ≤ x ∧ x < s.base + s.slots
structure SpurOk (nb : Nat) (s : SpurD) : Prop where
  inn : 0 ≤ s.inn ∧ s.inn < nb
  out : 0 ≤ s.out ∧ s.out < nb
  slots : 1 ≤ s.slots ∧ s.slots ≤ 4
structure ConfOk (q a d p : Int) : Prop where
  queue : 1 ≤ q ∧ q ≤ 8
  aging : 0 ≤ a ∧ a ≤ 4
  detours : 0 ≤ d ∧ d ≤ 3
  patience : 1 ≤ p ∧ p ≤ 16
structure NetOk (N : NetD) : Prop where
  some : 1 ≤ N.blocks.length
  few : N.blocks.length ≤ 24
  lanes : N.next.length = N.blocks.length
  places : ∀ b ∈ N.blocks, -9999 ≤ b.x ∧ b.x ≤ 9999 ∧ -9999 ≤ b.y ∧ b.y ≤ 9999
  outs : ∀ r ∈ N.next, r.length ≤ 4
  graph : validG N.next = true
  spurs6 : N.spurs.length ≤ 6
  named : ∀ s ∈ namesN N, name s = true
  apart : (namesN N).Nodup
  robots8 : N.robots.length ≤ 8
  conf : ConfOk N.queue N.aging N.detours N.patience
  spurOk : ∀ s ∈ N.spurs, SpurOk N.blocks.length s
  bases : ∀ k (h : k < N.spurs.length), N.spurs[k].base = N.blocks.length + slotsK N.spurs k
  homes : ∀ x ∈ N.robots, inDepot N.spurs x
  once : N.robots.Nodup
  depot : ∃ s ∈ N.spurs, s.depot = true
theorem slotsK_bounds {l : List SpurD} (h : ∀ s ∈ l, 0 ≤ s.slots ∧ s.slots ≤ 4) : ∀ k, k ≤ l.length → 0 ≤ slotsK l k ∧ slotsK l k ≤ 4 * k
  | 0, _ => by simp [slotsK]
  | k + 1, hk => by
    have ih := slotsK_bounds h k (by omega)
    have := h _ (List.getElem_mem (show k < l.length by omega))
    rw [slotsK_succ (by omega)]
    omega
def blockCells : List BlockD → List Value
  | [] => []
  | b :: l => Sv b.name :: Iv b.x :: Iv b.y :: blockCells l
def spurCells : List SpurD → List Value
  | [] => []
  | s :: l => Sv s.name :: Bo s.depot :: Iv s.inn :: Iv s.out :: Iv s.slots :: Iv s.base :: spurCells l
theorem blockCells_length : ∀ (l : List BlockD), (blockCells l).length = l.length * 3
  | [] => rfl
  | b :: l => by simp only [blockCells, List.length_cons]; rw [blockCells_length l]; omega
theorem spurCells_length : ∀ (l : List SpurD), (spurCells l).length = l.length * 6
  | [] => rfl
  | b :: l => by simp only [spurCells, List.length_cons]; rw [spurCells_length l]; omega
theorem blockCells_append : ∀ (a b : List BlockD), blockCells (a ++ b) = blockCells a ++ blockCells b
  | [], _ => rfl
  | x :: a, b => by simp only [List.cons_append, blockCells]; rw [blockCells_append a b]
theorem spurCells_append : ∀ (a b : List SpurD), spurCells (a ++ b) = spurCells a ++ spurCells b
  | [], _ => rfl
  | x :: a, b => by simp only [List.cons_append, spurCells]; rw [spurCells_append a b]
theorem blockCells_at : ∀ (l : List BlockD) (k : Nat) (h : k < l.length), (blockCells l)[k * 3]? = some (Sv l[k].name) ∧ (blockCells l)[k * 3 + 1]? = some (Iv l[k].x) ∧ (blockCells l)[k * 3 + 2]? = some (Iv l[k].y)
  | [], k, h => by simp at h
  | b :: l, 0, _ => ⟨rfl, rfl, rfl⟩
  | b :: l, k + 1, h => by
    obtain ⟨h1, h2, h3⟩ := blockCells_at l k (by simpa using h)
    refine ⟨?_, ?_, ?_⟩
    · rw [show (k + 1) * 3 = k * 3 + 1 + 1 + 1 by omega]; simpa [blockCells] using h1
    · rw [show (k + 1) * 3 + 1 = k * 3 + 1 + 1 + 1 + 1 by omega]; simpa [blockCells] using h2
    · rw [show (k + 1) * 3 + 2 = k * 3 + 2 + 1 + 1 + 1 by omega]; simpa [blockCells] using h3
theorem spurCells_at : ∀ (l : List SpurD) (k : Nat) (h : k < l.length), (spurCells l)[k * 6]? = some (Sv l[k].name) ∧ (spurCells l)[k * 6 + 1]? = some (Bo l[k].depot) ∧ (spurCells l)[k * 6 + 2]? = some (Iv l[k].inn) ∧ (spurCells l)[k * 6 + 3]? = some (Iv l[k].out) ∧ (spurCells l)[k * 6 + 4]? = some (Iv l[k].slots) ∧ (spurCells l)[k * 6 + 5]? = some (Iv l[k].base)
  | [], k, h => by simp at h
  | b :: l, 0, _ => ⟨rfl, rfl, rfl, rfl, rfl, rfl⟩
  | b :: l, k + 1, h => by
    obtain ⟨h1, h2, h3, h4, h5, h6⟩ := spurCells_at l k (by simpa using h)
    refine ⟨?_, ?_, ?_, ?_, ?_, ?_⟩
    · rw [show (k + 1) * 6 = k * 6 + 1 + 1 + 1 + 1 + 1 + 1 by omega]; simpa [spurCells] using h1
    · rw [show (k + 1) * 6 + 1 = k * 6 + 1 + 1 + 1 + 1 + 1 + 1 + 1 by omega]; simpa [spurCells] using h2
    · rw [show (k + 1) * 6 + 2 = k * 6 + 2 + 1 + 1 + 1 + 1 + 1 + 1 by omega]; simpa [spurCells] using h3
    · rw [show (k + 1) * 6 + 3 = k * 6 + 3 + 1 + 1 + 1 + 1 + 1 + 1 by omega]; simpa [spurCells] using h4
    · rw [show (k + 1) * 6 + 4 = k * 6 + 4 + 1 + 1 + 1 + 1 + 1 + 1 by omega]; simpa [spurCells] using h5
    · rw [show (k + 1) * 6 + 5 = k * 6 + 5 + 1 + 1 + 1 + 1 + 1 + 1 by omega]; simpa [spurCells] using h6
theorem Holds.look {w : World} {b o : Nat} {xs : List Value} (h : Holds w (some ⟨b, o, none⟩) xs) {i : Nat} {u : Value} (hu : xs[i]? = some u) : w.cell? ⟨b, o + i, none⟩ = some u := by
  obtain ⟨hi, hu⟩ := List.getElem?_eq_some_iff.1 hu
  obtain ⟨b', o', hA, _, hc⟩ := h.at_ (by omega)
  injection hA with hA
  injection hA with h1 h2
  subst h1 h2
  rw [hc i hi, hu]
/-- The cells of one block, of one spur. -/
structure BlockAt (w : World) (b o : Nat) (x : BlockD) : Prop where
  c0 : w.cell? ⟨b, o, none⟩ = some (Sv x.name)
  c1 : w.cell? ⟨b, o + 1, none⟩ = some (Iv x.x)
  c2 : w.cell? ⟨b, o + 2, none⟩ = some (Iv x.y)
structure SpurAt (w : World) (b o : Nat) (x : SpurD) : Prop where
  c0 : w.cell? ⟨b, o, none⟩ = some (Sv x.name)
  c1 : w.cell? ⟨b, o + 1, none⟩ = some (Bo x.depot)
  c2 : w.cell? ⟨b, o + 2, none⟩ = some (Iv x.inn)
  c3 : w.cell? ⟨b, o + 3, none⟩ = some (Iv x.out)
  c4 : w.cell? ⟨b, o + 4, none⟩ = some (Iv x.slots)
  c5 : w.cell? ⟨b, o + 5, none⟩ = some (Iv x.base)
theorem Holds.block {w : World} {A : Option Addr} {l : List BlockD} (h : Holds w A (blockCells l)) {k : Nat} (hk : k < l.length) : ∃ b o, A = some ⟨b, o, none⟩ ∧ b < w.heap.size ∧ BlockAt w b (o + k * 3) l[k] := by
  obtain ⟨b, o, rfl, hlt, _⟩ := h.at_ (by rw [blockCells_length]; omega)
  obtain ⟨h0, h1, h2⟩ := blockCells_at l k hk
  exact ⟨b, o, rfl, hlt, h.look h0, by rw [Nat.add_assoc]; exact h.look h1, by rw [Nat.add_assoc]; exact h.look h2⟩
theorem Holds.spur {w : World} {A : Option Addr} {l : List SpurD} (h : Holds w A (spurCells l)) {k : Nat} (hk : k < l.length) : ∃ b o, A = some ⟨b, o, none⟩ ∧ b < w.heap.size ∧ SpurAt w b (o + k * 6) l[k] := by
  obtain ⟨b, o, rfl, hlt, _⟩ := h.at_ (by rw [spurCells_length]; omega)
  obtain ⟨h0, h1, h2, h3, h4, h5⟩ := spurCells_at l k hk
  exact ⟨b, o, rfl, hlt, h.look h0, by rw [Nat.add_assoc]; exact h.look h1, by rw [Nat.add_assoc]; exact h.look h2, by rw [Nat.add_assoc]; exact h.look h3, by rw [Nat.add_assoc]; exact h.look h4, by rw [Nat.add_assoc]; exact h.look h5⟩
theorem SpurAt.keep {w w' : World} {B b o : Nat} {x : SpurD} (h : SpurAt w b o x) (hb : b < B) (hw : Below B w w') : SpurAt w' b o x :=
  ⟨(hw.cell (p := ⟨b, _, none⟩) hb).trans h.c0, (hw.cell (p := ⟨b, _, none⟩) hb).trans h.c1, (hw.cell (p := ⟨b, _, none⟩) hb).trans h.c2, (hw.cell (p := ⟨b, _, none⟩) hb).trans h.c3, (hw.cell (p := ⟨b, _, none⟩) hb).trans h.c4, (hw.cell (p := ⟨b, _, none⟩) hb).trans h.c5⟩
theorem BlockAt.keep {w w' : World} {B b o : Nat} {x : BlockD} (h : BlockAt w b o x) (hb : b < B) (hw : Below B w w') : BlockAt w' b o x :=
  ⟨(hw.cell (p := ⟨b, _, none⟩) hb).trans h.c0, (hw.cell (p := ⟨b, _, none⟩) hb).trans h.c1, (hw.cell (p := ⟨b, _, none⟩) hb).trans h.c2⟩
/-- A network's four lists lie at these addresses. -/
structure NetAt (w : World) (Ab An As Ar : Option Addr) (N : NetD) : Prop where
  blocks : Holds w Ab (blockCells N.blocks)
  next : RowsAt w An N.next
  spurs : Holds w As (spurCells N.spurs)
  robots : Holds w Ar (N.robots.map Iv)
theorem NetAt.keep {w w' : World} {Ab An As Ar : Option Addr} {N : NetD} (h : NetAt w Ab An As Ar N) (hb : Below w.heap.size w w') : NetAt w' Ab An As Ar N :=
  ⟨h.blocks.keep hb, h.next.keep hb, h.spurs.keep hb, h.robots.keep hb⟩
/-- A network's box: its cells. -/
abbrev netCells (Ab An As Ar : Option Addr) (cb cn cs cr : Nat) (N : NetD) : Array Value := #[.slice Ab N.blocks.length cb, .slice An N.next.length cn, .slice As N.spurs.length cs, .slice Ar N.robots.length cr, Iv N.queue, Iv N.aging, Iv N.detours, Iv N.patience]
structure BoxAt (w : World) (b : Nat) (Ab An As Ar : Option Addr) (cb cn cs cr : Nat) (N : NetD) : Prop where
  c0 : w.cell? ⟨b, 0, none⟩ = some (.slice Ab N.blocks.length cb)
  c1 : w.cell? ⟨b, 1, none⟩ = some (.slice An N.next.length cn)
  c2 : w.cell? ⟨b, 2, none⟩ = some (.slice As N.spurs.length cs)
  c3 : w.cell? ⟨b, 3, none⟩ = some (.slice Ar N.robots.length cr)
  c4 : w.cell? ⟨b, 4, none⟩ = some (Iv N.queue)
  c5 : w.cell? ⟨b, 5, none⟩ = some (Iv N.aging)
  c6 : w.cell? ⟨b, 6, none⟩ = some (Iv N.detours)
  c7 : w.cell? ⟨b, 7, none⟩ = some (Iv N.patience)
theorem boxAt_of {w : World} {b : Nat} {Ab An As Ar : Option Addr} {cb cn cs cr : Nat} {N : NetD} {t : TypeId} {fr : Nat × Nat} (h : w.heap[b]? = some (.cells (netCells Ab An As Ar cb cn cs cr N) t fr)) : BoxAt w b Ab An As Ar cb cn cs cr N := by
  constructor
  all_goals rw [cell_of_row w b _ _ _ _ h]; rfl
theorem BoxAt.keep {w w' : World} {B b : Nat} {Ab An As Ar : Option Addr} {cb cn cs cr : Nat} {N : NetD} (h : BoxAt w b Ab An As Ar cb cn cs cr N) (hb : b < B) (hw : Below B w w') : BoxAt w' b Ab An As Ar cb cn cs cr N :=
  ⟨(hw.cell (p := ⟨b, _, none⟩) hb).trans h.c0, (hw.cell (p := ⟨b, _, none⟩) hb).trans h.c1, (hw.cell (p := ⟨b, _, none⟩) hb).trans h.c2, (hw.cell (p := ⟨b, _, none⟩) hb).trans h.c3, (hw.cell (p := ⟨b, _, none⟩) hb).trans h.c4, (hw.cell (p := ⟨b, _, none⟩) hb).trans h.c5, (hw.cell (p := ⟨b, _, none⟩) hb).trans h.c6, (hw.cell (p := ⟨b, _, none⟩) hb).trans h.c7⟩
end Go.Proofs.Ytjbhmeeebacnpaa
