/- A network that is being made: a block of the call's own is written, the configuration is set, robots are appended. -/
import Derived.Test.YtpdjcccpohnmcaaDoorNmState
namespace Go.Proofs.YtpdjcccpohnmcaaDoor
open Go Go.RowKit Fl

abbrev zeroSpur : Obj := .cells #[.string ByteArray.empty, .bool false, .int .i64 0, .int .i64 0, .int .i64 0, .int .i64 0] 57
/-- Block Y, at or behind s0, is a spur's, with these cells. -/
def SpurBlk (w : World) (s0 Y : Nat) (cs : Array Value) : Prop := w.heap[Y]? = some (.cells cs 57 (0, 0)) ∧ s0 ≤ Y
theorem SpurBlk.new {w : World} {s0 : Nat} (h : s0 ≤ w.heap.size) : SpurBlk (w.alloc zeroSpur) s0 w.heap.size #[.string ByteArray.empty, .bool false, .int .i64 0, .int .i64 0, .int .i64 0, .int .i64 0] := ⟨heap_alloc_new w zeroSpur, h⟩
theorem SpurBlk.grown {w w' : World} {s0 Y gt : Nat} {cs : Array Value} (h : SpurBlk w s0 Y cs) (hg : w.grownBy w' (some gt)) (hs : gt < s0) : SpurBlk w' s0 Y cs :=
  ⟨(hg.block Y (block_lt h.1) (fun e => by injection e with e; have := h.2; omega)).trans h.1, h.2⟩
theorem SpurBlk.keep {w w' : World} {s0 Y : Nat} {cs : Array Value} (h : SpurBlk w s0 Y cs) (hb : Below w.heap.size w w') : SpurBlk w' s0 Y cs := ⟨(hb.block Y (block_lt h.1)).trans h.1, h.2⟩
theorem SpurBlk.cells {w : World} {s0 Y : Nat} {a b c d e f : Value} (h : SpurBlk w s0 Y #[a, b, c, d, e, f]) : w.cell? ⟨Y, 0, none⟩ = some a ∧ w.cell? ⟨Y, 1, none⟩ = some b ∧ w.cell? ⟨Y, 2, none⟩ = some c ∧ w.cell? ⟨Y, 3, none⟩ = some d ∧ w.cell? ⟨Y, 4, none⟩ = some e ∧ w.cell? ⟨Y, 5, none⟩ = some f :=
  ⟨by rw [cell_of_row w Y 0 _ _ _ h.1]; rfl, by rw [cell_of_row w Y 1 _ _ _ h.1]; rfl, by rw [cell_of_row w Y 2 _ _ _ h.1]; rfl, by rw [cell_of_row w Y 3 _ _ _ h.1]; rfl, by rw [cell_of_row w Y 4 _ _ _ h.1]; rfl, by rw [cell_of_row w Y 5 _ _ _ h.1]; rfl⟩
theorem SpurBlk.froz {w : World} {s0 Y : Nat} {cs : Array Value} (h : SpurBlk w s0 Y cs) (i : Nat) : w.frozen? ⟨Y, i, none⟩ = false := by simp [World.frozen?, h.1]
theorem set6_at {W : World} {g : Nat} {a0 a1 a2 a3 a4 a5 v0 v1 v2 v3 v4 v5 : Value} {t : TypeId} (h : W.heap[g]? = some (.cells #[a0, a1, a2, a3, a4, a5] t (0, 0))) : ((((((W.setCell ⟨g, 0, none⟩ v0).setCell ⟨g, 1, none⟩ v1).setCell ⟨g, 2, none⟩ v2).setCell ⟨g, 3, none⟩ v3).setCell ⟨g, 4, none⟩ v4).setCell ⟨g, 5, none⟩ v5).heap[g]? = some (.cells #[v0, v1, v2, v3, v4, v5] t (0, 0)) :=
  set1_at (set1_at (set1_at (set1_at (set1_at (set1_at h)))))
theorem put_grown (w : World) (g i : Nat) (v : Value) : w.grownBy (w.setCell ⟨g, i, none⟩ v) (some g) :=
  ⟨rfl, rfl, rfl, by simp [World.setCell], fun k _ hne => Below.heap_setCell _ _ _ _ (fun e => hne (by rw [e]))⟩
theorem grown_trans {a b c : World} {row : Option Nat} (h : a.grownBy b row) (k : b.grownBy c row) : a.grownBy c row :=
  ⟨k.os.trans h.os, k.tape.trans h.tape, k.output.trans h.output, Nat.le_trans h.size k.size, fun i hi hne => (k.block i (Nat.lt_of_lt_of_le hi h.size) hne).trans (h.block i hi hne)⟩
theorem set6_grown (W : World) (g : Nat) (v0 v1 v2 v3 v4 v5 : Value) : W.grownBy ((((((W.setCell ⟨g, 0, none⟩ v0).setCell ⟨g, 1, none⟩ v1).setCell ⟨g, 2, none⟩ v2).setCell ⟨g, 3, none⟩ v3).setCell ⟨g, 4, none⟩ v4).setCell ⟨g, 5, none⟩ v5) (some g) :=
  grown_trans (grown_trans (grown_trans (grown_trans (grown_trans (put_grown _ _ _ _) (put_grown _ _ _ _)) (put_grown _ _ _ _)) (put_grown _ _ _ _)) (put_grown _ _ _ _)) (put_grown _ _ _ _)
theorem set6_cell {W : World} {Y nb i : Nat} {u v0 v1 v2 v3 v4 v5 : Value} (h : W.cell? ⟨nb, i, none⟩ = some u) (hne : nb ≠ Y) : ((((((W.setCell ⟨Y, 0, none⟩ v0).setCell ⟨Y, 1, none⟩ v1).setCell ⟨Y, 2, none⟩ v2).setCell ⟨Y, 3, none⟩ v3).setCell ⟨Y, 4, none⟩ v4).setCell ⟨Y, 5, none⟩ v5).cell? ⟨nb, i, none⟩ = some u := by
  have hg := set6_grown W Y v0 v1 v2 v3 v4 v5
  exact (World.cell?_of_block (a := ⟨nb, i, none⟩) (hg.block nb (World.block_lt_of_cell? _ _ h) (fun e => hne (by injection e)))).trans h
section
variable {w wr w' : World} {B gt T G0 nb base : Nat} {N : NetD} {Ab An As Ar : Option Addr} {cb cn cs cr : Nat}
/-- A spur's block that is no list's is written. -/
theorem NS.spurPut {Y s0 : Nat} {cz : Array Value} (h : NS w B gt T G0 nb base N Ab An As Ar cb cn cs cr wr) (hY : SpurBlk wr s0 Y cz) (hb : base ≤ s0) (hne : ∀ k, (Value.slice As N.spurs.length cs).ownBlock = some k → k < s0) (hg : wr.grownBy w' (some Y)) : NS w B gt T G0 nb base N Ab An As Ar cb cn cs cr w' := by
  obtain ⟨o1, o2, o3, o4⟩ := h.ord
  obtain ⟨y1, y2⟩ := hY
  have hs := h.size
  obtain ⟨cy, z1, z2⟩ := h.res
  have hr : ∀ {e : TypeId}, 57 ≠ e → ∀ k, some Y = some k → k < base ∨ ∃ cs t, wr.heap[k]? = some (.cells cs t (0, 0)) ∧ t ≠ e := fun hne k hk => by
    injection hk with hk
    subst hk
    exact .inr ⟨_, _, y1, hne⟩
  refine ⟨(hg.block nb (by omega) (fun e => by injection e with e; omega)).trans h.box, ⟨cy, (hg.block G0 (by omega) (fun e => by injection e with e; omega)).trans z1, z2⟩, h.tape.grown hg (fun e => by injection e with e; omega) (fun k hk => by injection hk with hk; omega), ownN_apart h.blocks hg (hr (by decide)), rowsN_apart h.next hg (fun k hk => by injection hk with hk; subst hk; exact .inr ⟨_, _, y1, by decide, by decide⟩), ?_, ownN_apart h.robots hg (hr (by decide)), h.still.trans ⟨hg.os, hg.tape, hg.output, hg.size, fun k hk _ => hg.block k (by omega) (fun e => by injection e with e; omega)⟩, Nat.le_trans h.size hg.size, h.ord⟩
  exact ownN_to h.spurs fun k hk hlt => hg.block k hlt (fun e => by injection e with e; have := hne k hk; omega)
theorem NS.spurLow (h : NS w B gt T G0 nb base N Ab An As Ar cb cn cs cr wr) : ∀ k, (Value.slice As N.spurs.length cs).ownBlock = some k → k < wr.heap.size := fun k hk => by
  obtain ⟨⟨cs, h1⟩, _⟩ := ownN_type h.spurs hk
  exact block_lt h1
/-- The box's numbers are set. -/
theorem NS.config {q a d p : Int} (h : NS w B gt T G0 nb base N Ab An As Ar cb cn cs cr wr) : NS w B gt T G0 nb base { N with queue := q, aging := a, detours := d, patience := p } Ab An As Ar cb cn cs cr ((((wr.setCell ⟨nb, 4, none⟩ (Iv q)).setCell ⟨nb, 5, none⟩ (Iv a)).setCell ⟨nb, 6, none⟩ (Iv d)).setCell ⟨nb, 7, none⟩ (Iv p)) := by
  obtain ⟨o1, o2, o3, o4⟩ := h.ord
  have hs := h.size
  obtain ⟨cy, z1, z2⟩ := h.res
  have hg : wr.grownBy ((((wr.setCell ⟨nb, 4, none⟩ (Iv q)).setCell ⟨nb, 5, none⟩ (Iv a)).setCell ⟨nb, 6, none⟩ (Iv d)).setCell ⟨nb, 7, none⟩ (Iv p)) (some nb) := grown_trans (grown_trans (grown_trans (put_grown _ _ _ _) (put_grown _ _ _ _)) (put_grown _ _ _ _)) (put_grown _ _ _ _)
  have hr : ∀ k, some nb = some k → k < base := fun k hk => by injection hk with hk; omega
  have hne : ∀ k, base ≤ k → some k ≠ some nb := fun k hk e => by injection e with e; omega
  have hbx : ((((wr.setCell ⟨nb, 4, none⟩ (Iv q)).setCell ⟨nb, 5, none⟩ (Iv a)).setCell ⟨nb, 6, none⟩ (Iv d)).setCell ⟨nb, 7, none⟩ (Iv p)).heap[nb]? = _ := set1_at (set1_at (set1_at (set1_at h.box)))
  exact ⟨hbx, ⟨cy, (hg.block G0 (by omega) (fun e => by injection e with e; omega)).trans z1, z2⟩, h.tape.grown hg (fun e => by injection e with e; omega) (fun k hk => by injection hk with hk; omega), ownN_apart h.blocks hg (fun k hk => .inl (hr k hk)), rowsN_apart h.next hg (fun k hk => .inl (hr k hk)), ownN_apart h.spurs hg (fun k hk => .inl (hr k hk)), ownN_apart h.robots hg (fun k hk => .inl (hr k hk)), h.still.trans ⟨hg.os, hg.tape, hg.output, hg.size, fun k hk _ => hg.block k (by omega) (fun e => by injection e with e; omega)⟩, Nat.le_trans h.size hg.size, h.ord⟩
end
end Go.Proofs.YtpdjcccpohnmcaaDoor
