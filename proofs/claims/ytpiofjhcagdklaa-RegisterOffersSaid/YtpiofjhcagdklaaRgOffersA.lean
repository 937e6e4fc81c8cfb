/- What RegisterOffers keeps. -/
import Derived.Test.YtpiofjhcagdklaaRgRisesA
import Derived.Test.YtpiofjhcagdklaaTapeC
namespace Go.Proofs.Ytpiofjhcagdklaa
open Go Go.RowKit Fl

/-- Block b holds these cells. -/
def BlkAt (w : World) (b : Nat) (cs : Array Value) (t : TypeId) : Prop := w.heap[b]? = some (.cells cs t (0, 0))
theorem BlkAt.new (w : World) (cs : Array Value) (t : TypeId) : BlkAt (w.alloc (.cells cs t)) w.heap.size cs t := heap_alloc_new w _
theorem BlkAt.keep {w w' : World} {b : Nat} {cs : Array Value} {t : TypeId} (h : BlkAt w b cs t) (hb : Below w.heap.size w w') : BlkAt w' b cs t := (hb.block b (block_lt h)).trans h
theorem BlkAt.at_ {w : World} {b : Nat} {cs : Array Value} {t : TypeId} (h : BlkAt w b cs t) (i : Nat) : w.cell? ⟨b, i, none⟩ = cs[i]? := cell_of_row w b i _ _ (0, 0) h
/-- The cells of a list of senders. -/
def snC : List SndD → List Value
  | [] => []
  | s :: r => .int .u64 s.seq :: .bool s.isOpen :: .int .i64 s.cell :: .int .i64 s.flag :: snC r
theorem snC_at : ∀ (l : List SndD) (k : Nat) (s : SndD), l[k]? = some s → (snC l)[k * 4]? = some (.int .u64 s.seq) ∧ (snC l)[k * 4 + 1]? = some (.bool s.isOpen) ∧ (snC l)[k * 4 + 2]? = some (.int .i64 s.cell) ∧ (snC l)[k * 4 + 3]? = some (.int .i64 s.flag)
  | [], k, s, h => by simp at h
  | a :: r, 0, s, h => by simp at h; subst h; exact ⟨rfl, rfl, rfl, rfl⟩
  | a :: r, k + 1, s, h => by
    have := snC_at r k s (by simpa using h)
    rw [show (k + 1) * 4 = k * 4 + 4 by omega]
    exact this
/-- A list of senders in a block. -/
theorem blk_sn {w : World} {b : Nat} {l : List SndD} {cs : Array Value} {t : TypeId} (h : BlkAt w b cs t) (hc : cs.toList = snC l) {k : Nat} {s : SndD} (hk : l[k]? = some s) :
    w.cell? ⟨b, k * 4, none⟩ = some (.int .u64 s.seq) ∧ w.cell? ⟨b, k * 4 + 1, none⟩ = some (.bool s.isOpen) ∧ w.cell? ⟨b, k * 4 + 2, none⟩ = some (.int .i64 s.cell) ∧ w.cell? ⟨b, k * 4 + 3, none⟩ = some (.int .i64 s.flag) := by
  obtain ⟨h0, h1, h2, h3⟩ := snC_at l k s hk
  have e : ∀ i, w.cell? ⟨b, i, none⟩ = (snC l)[i]? := fun i => by rw [h.at_ i, ← hc, Array.getElem?_toList]
  rw [e, e, e, e]
  exact ⟨h0, h1, h2, h3⟩
theorem tmod_lt3 {x : Int} (h : 0 ≤ x) : 0 ≤ x.tmod 3 ∧ x.tmod 3 < 3 := by
  rw [Int.tmod_eq_emod_of_nonneg h]; omega
theorem FrAt.newz (w : World) : FrAt (w.alloc (.cells #[.int .i64 0, .int .i64 0, .int .u64 0, .int .i64 0, .int .i64 0] 35)) w.heap.size zeroF := FrAt.new w zeroF
theorem FrAt.newd (w : World) : FrAt (w.drew.alloc (.cells #[.int .i64 0, .int .i64 0, .int .u64 0, .int .i64 0, .int .i64 0] 35)) w.heap.size zeroF := FrAt.new w.drew zeroF
theorem FrAt.drew {w : World} {b : Nat} {f : FrD} (h : FrAt w b f) : FrAt w.drew b f := h.keep (Below.refl _ _).drew
/-- A contract, met in a later world. -/
theorem keepC {f : FuncId} {args : Array Value} {r : Ending} (W0 : World) (h : ∀ W, Calls Try.prog f args W fun e w' => e = r ∧ Below W.heap.size W w') :
    ∀ W, Below W0.heap.size W0 W → Calls Try.prog f args W fun e w' => e = r ∧ Below W0.heap.size W0 w' ∧ (∀ b z, SnAt W b z → SnAt w' b z) ∧ (∀ b z, FrAt W b z → FrAt w' b z) :=
  fun W hW => (h W).mono fun _ _ hh => ⟨hh.1, hW.trans (hh.2.mono hW.size), fun _ _ hz => hz.keep hh.2, fun _ _ hz => hz.keep hh.2⟩
theorem below_put_ge {B X i : Nat} {w w' : World} {v : Value} (h : Below B w w') (hX : B ≤ X) : Below B w (w'.setCell ⟨X, i, none⟩ v) := below_put h hX
theorem three_cases {l : List SndD} {q : Nat} (hl : l.length = 3) (hq : q < 3) (hu : ∀ s ∈ l, U64 s.seq) : ∃ s, l[q]? = some s ∧ U64 s.seq :=
  ⟨l[q], List.getElem?_eq_getElem (by omega), hu _ (List.getElem_mem (by omega))⟩
end Go.Proofs.Ytpiofjhcagdklaa
