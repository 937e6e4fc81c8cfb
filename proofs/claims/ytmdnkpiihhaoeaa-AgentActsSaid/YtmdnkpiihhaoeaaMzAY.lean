/- Joined texts. -/
import Derived.Test.YtmdnkpiihhaoeaaMzAX
import Derived.Test.YtmdnkpiihhaoeaaMzAT
import Derived.Test.YtmdnkpiihhaoeaaMzAU
namespace Go.Proofs.Ytmdnkpiihhaoeaa
open Go Go.RowKit Fl

def put4B (w : World) (X : Nat) (b : BodD) : World := ((((w.setCell ⟨X, 0, none⟩ (.int .i64 b.cel)).setCell ⟨X, 1, none⟩ (.int .i64 b.dst)).setCell ⟨X, 2, none⟩ (.bool b.srv)).setCell ⟨X, 3, none⟩ (.bool b.flt))
theorem put4B_grown (w : World) (X : Nat) (b : BodD) : w.grownBy (put4B w X b) (some X) := by
  have h1 : ∀ (a : World) (i : Nat) (v : Value), a.grownBy (a.setCell ⟨X, i, none⟩ v) (some X) := fun a i v => grown_put (Below.refl a.heap.size a) (Nat.le_refl _)
  have h2 : ∀ a b c : World, a.grownBy b (some X) → b.grownBy c (some X) → a.grownBy c (some X) := fun a b c h k => ⟨k.os.trans h.os, k.tape.trans h.tape, k.output.trans h.output, Nat.le_trans h.size k.size, fun i hi hn => (k.block i (Nat.lt_of_lt_of_le hi h.size) hn).trans (h.block i hi hn)⟩
  exact h2 _ _ _ (h2 _ _ _ (h2 _ _ _ (h1 _ _ _) (h1 _ _ _)) (h1 _ _ _)) (h1 _ _ _)
theorem put4B_below {B X : Nat} {w w' : World} {b : BodD} (h : Below B w w') (hX : B ≤ X) : Below B w (put4B w' X b) :=
  below_put (below_put (below_put (below_put h hX) hX) hX) hX
/-- An agent and a body are stored, in either order. -/
theorem both_after {w wd : World} {Z Y base : Nat} {z : AgtD} {y : BodD} {v : Value} {l : List FrD} (hz : AgAt wd Z z) (hy : BodAt wd Y y) (hZY : Z ≠ Y) (hb : Below w.heap.size w wd) (hZ : w.heap.size ≤ Z) (hY : w.heap.size ≤ Y) (ho : OwnFr wd base v l) (hZb : Z < base) (hYb : Y < base) (a : AgtD) (b : BodD) :
    (AgAt (((((((((wd.setCell ⟨Z, 0, none⟩ (.int .u64 a.las)).setCell ⟨Z, 1, none⟩ (.int .i64 a.dst)).setCell ⟨Z, 2, none⟩ (.bool a.srv)).setCell ⟨Z, 3, none⟩ (.int .i64 a.rpt)).setCell ⟨Z, 4, none⟩ (.int .i64 a.cel)).setCell ⟨Y, 0, none⟩ (.int .i64 b.cel)).setCell ⟨Y, 1, none⟩ (.int .i64 b.dst)).setCell ⟨Y, 2, none⟩ (.bool b.srv)).setCell ⟨Y, 3, none⟩ (.bool b.flt)).drew Z a ∧ BodAt (((((((((wd.setCell ⟨Z, 0, none⟩ (.int .u64 a.las)).setCell ⟨Z, 1, none⟩ (.int .i64 a.dst)).setCell ⟨Z, 2, none⟩ (.bool a.srv)).setCell ⟨Z, 3, none⟩ (.int .i64 a.rpt)).setCell ⟨Z, 4, none⟩ (.int .i64 a.cel)).setCell ⟨Y, 0, none⟩ (.int .i64 b.cel)).setCell ⟨Y, 1, none⟩ (.int .i64 b.dst)).setCell ⟨Y, 2, none⟩ (.bool b.srv)).setCell ⟨Y, 3, none⟩ (.bool b.flt)).drew Y b ∧ FrsR (((((((((wd.setCell ⟨Z, 0, none⟩ (.int .u64 a.las)).setCell ⟨Z, 1, none⟩ (.int .i64 a.dst)).setCell ⟨Z, 2, none⟩ (.bool a.srv)).setCell ⟨Z, 3, none⟩ (.int .i64 a.rpt)).setCell ⟨Z, 4, none⟩ (.int .i64 a.cel)).setCell ⟨Y, 0, none⟩ (.int .i64 b.cel)).setCell ⟨Y, 1, none⟩ (.int .i64 b.dst)).setCell ⟨Y, 2, none⟩ (.bool b.srv)).setCell ⟨Y, 3, none⟩ (.bool b.flt)).drew w.heap.size v l ∧ Below w.heap.size w (((((((((wd.setCell ⟨Z, 0, none⟩ (.int .u64 a.las)).setCell ⟨Z, 1, none⟩ (.int .i64 a.dst)).setCell ⟨Z, 2, none⟩ (.bool a.srv)).setCell ⟨Z, 3, none⟩ (.int .i64 a.rpt)).setCell ⟨Z, 4, none⟩ (.int .i64 a.cel)).setCell ⟨Y, 0, none⟩ (.int .i64 b.cel)).setCell ⟨Y, 1, none⟩ (.int .i64 b.dst)).setCell ⟨Y, 2, none⟩ (.bool b.srv)).setCell ⟨Y, 3, none⟩ (.bool b.flt)).drew) ∧ (AgAt (((((((((wd.setCell ⟨Y, 0, none⟩ (.int .i64 b.cel)).setCell ⟨Y, 1, none⟩ (.int .i64 b.dst)).setCell ⟨Y, 2, none⟩ (.bool b.srv)).setCell ⟨Y, 3, none⟩ (.bool b.flt)).setCell ⟨Z, 0, none⟩ (.int .u64 a.las)).setCell ⟨Z, 1, none⟩ (.int .i64 a.dst)).setCell ⟨Z, 2, none⟩ (.bool a.srv)).setCell ⟨Z, 3, none⟩ (.int .i64 a.rpt)).setCell ⟨Z, 4, none⟩ (.int .i64 a.cel)).drew Z a ∧ BodAt (((((((((wd.setCell ⟨Y, 0, none⟩ (.int .i64 b.cel)).setCell ⟨Y, 1, none⟩ (.int .i64 b.dst)).setCell ⟨Y, 2, none⟩ (.bool b.srv)).setCell ⟨Y, 3, none⟩ (.bool b.flt)).setCell ⟨Z, 0, none⟩ (.int .u64 a.las)).setCell ⟨Z, 1, none⟩ (.int .i64 a.dst)).setCell ⟨Z, 2, none⟩ (.bool a.srv)).setCell ⟨Z, 3, none⟩ (.int .i64 a.rpt)).setCell ⟨Z, 4, none⟩ (.int .i64 a.cel)).drew Y b ∧ FrsR (((((((((wd.setCell ⟨Y, 0, none⟩ (.int .i64 b.cel)).setCell ⟨Y, 1, none⟩ (.int .i64 b.dst)).setCell ⟨Y, 2, none⟩ (.bool b.srv)).setCell ⟨Y, 3, none⟩ (.bool b.flt)).setCell ⟨Z, 0, none⟩ (.int .u64 a.las)).setCell ⟨Z, 1, none⟩ (.int .i64 a.dst)).setCell ⟨Z, 2, none⟩ (.bool a.srv)).setCell ⟨Z, 3, none⟩ (.int .i64 a.rpt)).setCell ⟨Z, 4, none⟩ (.int .i64 a.cel)).drew w.heap.size v l ∧ Below w.heap.size w (((((((((wd.setCell ⟨Y, 0, none⟩ (.int .i64 b.cel)).setCell ⟨Y, 1, none⟩ (.int .i64 b.dst)).setCell ⟨Y, 2, none⟩ (.bool b.srv)).setCell ⟨Y, 3, none⟩ (.bool b.flt)).setCell ⟨Z, 0, none⟩ (.int .u64 a.las)).setCell ⟨Z, 1, none⟩ (.int .i64 a.dst)).setCell ⟨Z, 2, none⟩ (.bool a.srv)).setCell ⟨Z, 3, none⟩ (.int .i64 a.rpt)).setCell ⟨Z, 4, none⟩ (.int .i64 a.cel)).drew) := by
  have frs : ∀ W, OwnFr W base v l → FrsR W w.heap.size v l := fun W h => ownsRow_base h (by omega)
  have a1 : AgAt (put5A wd Z a) Z a := hz.put5 a
  have b1 : BodAt (put5A wd Z a) Y y := BodAt.grown hy (put5A_grown wd Z a) (fun e => by injection e with e; exact hZY e)
  have o1 := own_farF ho (put5A_grown wd Z a) hZb
  have l1 := put5A_below (X := Z) (a := a) hb hZ
  have a2 := a1.grown (put4B_grown (put5A wd Z a) Y b) (fun e => by injection e with e; exact hZY e.symm)
  have b2 : BodAt (put4B (put5A wd Z a) Y b) Y b := b1.put4 b
  have o2 := own_farF o1 (put4B_grown (put5A wd Z a) Y b) hYb
  have l2 := put4B_below (X := Y) (b := b) l1 hY
  have b3 : BodAt (put4B wd Y b) Y b := hy.put4 b
  have a3 : AgAt (put4B wd Y b) Z z := hz.grown (put4B_grown wd Y b) (fun e => by injection e with e; exact hZY e.symm)
  have o3 := own_farF ho (put4B_grown wd Y b) hYb
  have l3 := put4B_below (X := Y) (b := b) hb hY
  have a4 : AgAt (put5A (put4B wd Y b) Z a) Z a := a3.put5 a
  have b4 := BodAt.grown b3 (put5A_grown (put4B wd Y b) Z a) (fun e => by injection e with e; exact hZY e)
  have o4 := own_farF o3 (put5A_grown (put4B wd Y b) Z a) hZb
  have l4 := put5A_below (X := Z) (a := a) l3 hZ
  have rd : ∀ W : World, Below W.heap.size W W.drew := fun W => (Below.refl _ _).drew
  exact ⟨⟨a2.keep (rd _), b2.keep (rd _), (frs _ o2).keep (rd _), l2.drew⟩, a4.keep (rd _), b4.keep (rd _), (frs _ o4).keep (rd _), l4.drew⟩
/-- The same without a draw behind it. -/
theorem both_plain {w wd : World} {Z Y base : Nat} {z : AgtD} {y : BodD} {v : Value} {l : List FrD} (hz : AgAt wd Z z) (hy : BodAt wd Y y) (hZY : Z ≠ Y) (hb : Below w.heap.size w wd) (hZ : w.heap.size ≤ Z) (hY : w.heap.size ≤ Y) (ho : OwnFr wd base v l) (hZb : Z < base) (hYb : Y < base) (a : AgtD) (b : BodD) :
    (AgAt (((((((((wd.setCell ⟨Z, 0, none⟩ (.int .u64 a.las)).setCell ⟨Z, 1, none⟩ (.int .i64 a.dst)).setCell ⟨Z, 2, none⟩ (.bool a.srv)).setCell ⟨Z, 3, none⟩ (.int .i64 a.rpt)).setCell ⟨Z, 4, none⟩ (.int .i64 a.cel)).setCell ⟨Y, 0, none⟩ (.int .i64 b.cel)).setCell ⟨Y, 1, none⟩ (.int .i64 b.dst)).setCell ⟨Y, 2, none⟩ (.bool b.srv)).setCell ⟨Y, 3, none⟩ (.bool b.flt)) Z a ∧ BodAt (((((((((wd.setCell ⟨Z, 0, none⟩ (.int .u64 a.las)).setCell ⟨Z, 1, none⟩ (.int .i64 a.dst)).setCell ⟨Z, 2, none⟩ (.bool a.srv)).setCell ⟨Z, 3, none⟩ (.int .i64 a.rpt)).setCell ⟨Z, 4, none⟩ (.int .i64 a.cel)).setCell ⟨Y, 0, none⟩ (.int .i64 b.cel)).setCell ⟨Y, 1, none⟩ (.int .i64 b.dst)).setCell ⟨Y, 2, none⟩ (.bool b.srv)).setCell ⟨Y, 3, none⟩ (.bool b.flt)) Y b ∧ FrsR (((((((((wd.setCell ⟨Z, 0, none⟩ (.int .u64 a.las)).setCell ⟨Z, 1, none⟩ (.int .i64 a.dst)).setCell ⟨Z, 2, none⟩ (.bool a.srv)).setCell ⟨Z, 3, none⟩ (.int .i64 a.rpt)).setCell ⟨Z, 4, none⟩ (.int .i64 a.cel)).setCell ⟨Y, 0, none⟩ (.int .i64 b.cel)).setCell ⟨Y, 1, none⟩ (.int .i64 b.dst)).setCell ⟨Y, 2, none⟩ (.bool b.srv)).setCell ⟨Y, 3, none⟩ (.bool b.flt)) w.heap.size v l ∧ Below w.heap.size w (((((((((wd.setCell ⟨Z, 0, none⟩ (.int .u64 a.las)).setCell ⟨Z, 1, none⟩ (.int .i64 a.dst)).setCell ⟨Z, 2, none⟩ (.bool a.srv)).setCell ⟨Z, 3, none⟩ (.int .i64 a.rpt)).setCell ⟨Z, 4, none⟩ (.int .i64 a.cel)).setCell ⟨Y, 0, none⟩ (.int .i64 b.cel)).setCell ⟨Y, 1, none⟩ (.int .i64 b.dst)).setCell ⟨Y, 2, none⟩ (.bool b.srv)).setCell ⟨Y, 3, none⟩ (.bool b.flt))) ∧ (AgAt (((((((((wd.setCell ⟨Y, 0, none⟩ (.int .i64 b.cel)).setCell ⟨Y, 1, none⟩ (.int .i64 b.dst)).setCell ⟨Y, 2, none⟩ (.bool b.srv)).setCell ⟨Y, 3, none⟩ (.bool b.flt)).setCell ⟨Z, 0, none⟩ (.int .u64 a.las)).setCell ⟨Z, 1, none⟩ (.int .i64 a.dst)).setCell ⟨Z, 2, none⟩ (.bool a.srv)).setCell ⟨Z, 3, none⟩ (.int .i64 a.rpt)).setCell ⟨Z, 4, none⟩ (.int .i64 a.cel)) Z a ∧ BodAt (((((((((wd.setCell ⟨Y, 0, none⟩ (.int .i64 b.cel)).setCell ⟨Y, 1, none⟩ (.int .i64 b.dst)).setCell ⟨Y, 2, none⟩ (.bool b.srv)).setCell ⟨Y, 3, none⟩ (.bool b.flt)).setCell ⟨Z, 0, none⟩ (.int .u64 a.las)).setCell ⟨Z, 1, none⟩ (.int .i64 a.dst)).setCell ⟨Z, 2, none⟩ (.bool a.srv)).setCell ⟨Z, 3, none⟩ (.int .i64 a.rpt)).setCell ⟨Z, 4, none⟩ (.int .i64 a.cel)) Y b ∧ FrsR (((((((((wd.setCell ⟨Y, 0, none⟩ (.int .i64 b.cel)).setCell ⟨Y, 1, none⟩ (.int .i64 b.dst)).setCell ⟨Y, 2, none⟩ (.bool b.srv)).setCell ⟨Y, 3, none⟩ (.bool b.flt)).setCell ⟨Z, 0, none⟩ (.int .u64 a.las)).setCell ⟨Z, 1, none⟩ (.int .i64 a.dst)).setCell ⟨Z, 2, none⟩ (.bool a.srv)).setCell ⟨Z, 3, none⟩ (.int .i64 a.rpt)).setCell ⟨Z, 4, none⟩ (.int .i64 a.cel)) w.heap.size v l ∧ Below w.heap.size w (((((((((wd.setCell ⟨Y, 0, none⟩ (.int .i64 b.cel)).setCell ⟨Y, 1, none⟩ (.int .i64 b.dst)).setCell ⟨Y, 2, none⟩ (.bool b.srv)).setCell ⟨Y, 3, none⟩ (.bool b.flt)).setCell ⟨Z, 0, none⟩ (.int .u64 a.las)).setCell ⟨Z, 1, none⟩ (.int .i64 a.dst)).setCell ⟨Z, 2, none⟩ (.bool a.srv)).setCell ⟨Z, 3, none⟩ (.int .i64 a.rpt)).setCell ⟨Z, 4, none⟩ (.int .i64 a.cel))) := by
  have frs : ∀ W, OwnFr W base v l → FrsR W w.heap.size v l := fun W h => ownsRow_base h (by omega)
  have a1 : AgAt (put5A wd Z a) Z a := hz.put5 a
  have b1 : BodAt (put5A wd Z a) Y y := BodAt.grown hy (put5A_grown wd Z a) (fun e => by injection e with e; exact hZY e)
  have o1 := own_farF ho (put5A_grown wd Z a) hZb
  have l1 := put5A_below (X := Z) (a := a) hb hZ
  have a2 := a1.grown (put4B_grown (put5A wd Z a) Y b) (fun e => by injection e with e; exact hZY e.symm)
  have b2 : BodAt (put4B (put5A wd Z a) Y b) Y b := b1.put4 b
  have o2 := own_farF o1 (put4B_grown (put5A wd Z a) Y b) hYb
  have l2 := put4B_below (X := Y) (b := b) l1 hY
  have b3 : BodAt (put4B wd Y b) Y b := hy.put4 b
  have a3 : AgAt (put4B wd Y b) Z z := hz.grown (put4B_grown wd Y b) (fun e => by injection e with e; exact hZY e.symm)
  have o3 := own_farF ho (put4B_grown wd Y b) hYb
  have l3 := put4B_below (X := Y) (b := b) hb hY
  have a4 : AgAt (put5A (put4B wd Y b) Z a) Z a := a3.put5 a
  have b4 := BodAt.grown b3 (put5A_grown (put4B wd Y b) Z a) (fun e => by injection e with e; exact hZY e)
  have o4 := own_farF o3 (put5A_grown (put4B wd Y b) Z a) hZb
  have l4 := put5A_below (X := Z) (a := a) l3 hZ
  exact ⟨⟨a2, b2, frs _ o2, l2⟩, a4, b4, frs _ o4, l4⟩
/-- Four new blocks: an agent, a body, and both results. -/
theorem four_ab (w : World) (a : AgtD) (b : BodD) : AgAt ((((w.alloc (.cells (AC a) 32)).alloc (.cells (BC b) 34)).alloc (.cells (AC ⟨0, 0, false, 0, 0⟩) 32)).alloc (.cells (BC ⟨0, 0, false, false⟩) 34)) w.heap.size a ∧ BodAt ((((w.alloc (.cells (AC a) 32)).alloc (.cells (BC b) 34)).alloc (.cells (AC ⟨0, 0, false, 0, 0⟩) 32)).alloc (.cells (BC ⟨0, 0, false, false⟩) 34)) (w.heap.size + 1) b ∧ AgAt ((((w.alloc (.cells (AC a) 32)).alloc (.cells (BC b) 34)).alloc (.cells (AC ⟨0, 0, false, 0, 0⟩) 32)).alloc (.cells (BC ⟨0, 0, false, false⟩) 34)) (w.heap.size + 1 + 1) ⟨0, 0, false, 0, 0⟩ ∧ BodAt ((((w.alloc (.cells (AC a) 32)).alloc (.cells (BC b) 34)).alloc (.cells (AC ⟨0, 0, false, 0, 0⟩) 32)).alloc (.cells (BC ⟨0, 0, false, false⟩) 34)) (w.heap.size + 1 + 1 + 1) ⟨0, 0, false, false⟩ ∧ Below w.heap.size w ((((w.alloc (.cells (AC a) 32)).alloc (.cells (BC b) 34)).alloc (.cells (AC ⟨0, 0, false, 0, 0⟩) 32)).alloc (.cells (BC ⟨0, 0, false, false⟩) 34)) ∧ ((((w.alloc (.cells (AC a) 32)).alloc (.cells (BC b) 34)).alloc (.cells (AC ⟨0, 0, false, 0, 0⟩) 32)).alloc (.cells (BC ⟨0, 0, false, false⟩) 34)).heap.size = w.heap.size + 1 + 1 + 1 + 1 := by
  have n : ∀ (W : World) (o : Obj), (W.alloc o).heap.size = W.heap.size + 1 := fun W o => by simp
  have k : ∀ (W : World) (o : Obj), Below W.heap.size W (W.alloc o) := fun W o => below_newF W o
  have h2 := BodAt.new (w.alloc (.cells (AC a) 32)) b
  rw [n] at h2
  have h3 := AgAt.new ((w.alloc (.cells (AC a) 32)).alloc (.cells (BC b) 34)) ⟨0, 0, false, 0, 0⟩
  rw [n, n] at h3
  have h4 := BodAt.new (((w.alloc (.cells (AC a) 32)).alloc (.cells (BC b) 34)).alloc (.cells (AC ⟨0, 0, false, 0, 0⟩) 32)) ⟨0, 0, false, false⟩
  rw [n, n, n] at h4
  exact ⟨(((AgAt.new w a).keep (k _ _)).keep (k _ _)).keep (k _ _), (h2.keep (k _ _)).keep (k _ _), h3.keep (k _ _), h4, (((k w _).alloc (by simp) _).alloc (by simp; omega) _).alloc (by simp; omega) _, by rw [n, n, n, n]⟩
theorem five_ab (w : World) (a : AgtD) (b : BodD) : AgAt (((((w.alloc (.cells (AC a) 32)).alloc (.cells (BC b) 34)).alloc (.cells (AC ⟨0, 0, false, 0, 0⟩) 32)).alloc (.cells (BC ⟨0, 0, false, false⟩) 34)).alloc (.cells #[.slice none 0 0] 72)) w.heap.size a ∧ BodAt (((((w.alloc (.cells (AC a) 32)).alloc (.cells (BC b) 34)).alloc (.cells (AC ⟨0, 0, false, 0, 0⟩) 32)).alloc (.cells (BC ⟨0, 0, false, false⟩) 34)).alloc (.cells #[.slice none 0 0] 72)) (w.heap.size + 1) b ∧ AgAt (((((w.alloc (.cells (AC a) 32)).alloc (.cells (BC b) 34)).alloc (.cells (AC ⟨0, 0, false, 0, 0⟩) 32)).alloc (.cells (BC ⟨0, 0, false, false⟩) 34)).alloc (.cells #[.slice none 0 0] 72)) (w.heap.size + 1 + 1) ⟨0, 0, false, 0, 0⟩ ∧ BodAt (((((w.alloc (.cells (AC a) 32)).alloc (.cells (BC b) 34)).alloc (.cells (AC ⟨0, 0, false, 0, 0⟩) 32)).alloc (.cells (BC ⟨0, 0, false, false⟩) 34)).alloc (.cells #[.slice none 0 0] 72)) (w.heap.size + 1 + 1 + 1) ⟨0, 0, false, false⟩ ∧ An0 (((((w.alloc (.cells (AC a) 32)).alloc (.cells (BC b) 34)).alloc (.cells (AC ⟨0, 0, false, 0, 0⟩) 32)).alloc (.cells (BC ⟨0, 0, false, false⟩) 34)).alloc (.cells #[.slice none 0 0] 72)) (w.heap.size + 1 + 1 + 1 + 1) ∧ Below w.heap.size w (((((w.alloc (.cells (AC a) 32)).alloc (.cells (BC b) 34)).alloc (.cells (AC ⟨0, 0, false, 0, 0⟩) 32)).alloc (.cells (BC ⟨0, 0, false, false⟩) 34)).alloc (.cells #[.slice none 0 0] 72)) := by
  obtain ⟨h1, h2, h3, h4, h5, h6⟩ := four_ab w a b
  have h7 := An0.new ((((w.alloc (.cells (AC a) 32)).alloc (.cells (BC b) 34)).alloc (.cells (AC ⟨0, 0, false, 0, 0⟩) 32)).alloc (.cells (BC ⟨0, 0, false, false⟩) 34))
  rw [h6] at h7
  exact ⟨h1.keep (below_newF _ _), h2.keep (below_newF _ _), h3.keep (below_newF _ _), h4.keep (below_newF _ _), h7, h5.alloc h5.size _⟩
theorem range_one (b : BodD) : rangeB [b] 0 0 := ⟨by decide, by simp, by decide, by decide⟩
theorem fin_t {b : BodD} (fol : Bool) (h : finsB b = true) : doE fol [b] 0 4 0 = 0 ∧ doL fol [b] 0 4 0 = [⟨b.cel, b.dst, false, b.flt⟩] :=
  do_ok (fol := fol) (a := 4) (range_one b) h
theorem fin_f {b : BodD} (fol : Bool) (h : finsB b = false) : doE fol [b] 0 4 0 = 24 ∧ doL fol [b] 0 4 0 = [] :=
  do_no (fol := fol) (a := 4) (range_one b) h
theorem end_t {b : BodD} (fol : Bool) (h : endsB b = true) : doE fol [b] 0 2 0 = 0 ∧ doL fol [b] 0 2 0 = [⟨b.dst, -1, b.srv, b.flt⟩] :=
  do_ok (fol := fol) (a := 2) (range_one b) h
theorem end_f {b : BodD} (fol : Bool) (h : endsB b = false) : doE fol [b] 0 2 0 = 24 ∧ doL fol [b] 0 2 0 = [] :=
  do_no (fol := fol) (a := 2) (range_one b) h
theorem An0.cell0 {w : World} {b : Nat} (h : An0 w b) : w.cell? ⟨b, 0, none⟩ = some (.slice none 0 0) := by
  have h : _ = _ := h
  rw [cell_of_row _ _ _ _ _ (0, 0) h]; rfl
theorem An0.grown {w w' : World} {b : Nat} {row : Option Nat} (h : An0 w b) (hg : w.grownBy w' row) (hr : row ≠ some b) : An0 w' b := (hg.block b (block_lt h) (fun e => hr e.symm)).trans h
end Go.Proofs.Ytmdnkpiihhaoeaa
namespace Go.Proofs.Ytmdnkpiihhaoeaa
open Go Go.RowKit Fl

theorem own_fr1 {w : World} {g base : Nat} {f : FrD} (h : FrAt w g f) (hb : base ≤ g) : OwnFr w base (.slice (some ⟨g, 0, none⟩) 1 1) [f] :=
  ⟨by simp [frC_length], .inr ⟨g, 1, FC f, rfl, hb, h, Nat.le_refl 1, by unfold maxLen; omega, rfl, rfl⟩⟩
set_option maxRecDepth 100000 in
set_option maxHeartbeats 1000000 in
theorem refReportO_c (a : AgtD) (r : Int) (w : World) : Calls Try.prog 35 #[AV a, .int .i64 r] w (fun e w' => ∃ v, e = .returned v ∧ OwnFr w' w.heap.size v [repF a r] ∧ Below w.heap.size w w') := by
  have HZ := Lib.hid (two_fr w (.cells (AC a) 32) (repF a r))
  obtain ⟨las, dst, srv, rpt, cel⟩ := a
  go_enter Try.func35, Try.ntmps35
  go_wp2
  go_ret
  exact ⟨_, rfl, own_fr1 HZ.out.1 (by omega), HZ.out.2⟩
theorem AgAt.drewA {w : World} {b : Nat} {a : AgtD} (h : AgAt w b a) : AgAt w.drew b a := h.keep (Below.refl _ _).drew
theorem BodAt.drewB {w : World} {b : Nat} {a : BodD} (h : BodAt w b a) : BodAt w.drew b a := h.keep (Below.refl _ _).drew
theorem AgAt.put34v {w : World} {b : Nat} {las dst rpt cel u v : Int} {srv : Bool} (h : AgAt w b ⟨las, dst, srv, rpt, cel⟩) : AgAt ((w.setCell ⟨b, 3, none⟩ (.int .i64 u)).setCell ⟨b, 4, none⟩ (.int .i64 v)) b ⟨las, dst, srv, u, v⟩ := by
  unfold AgAt at h ⊢
  simp [World.setCell, Array.getElem?_modify, h]
theorem BodAt.put2 {w : World} {b : Nat} {bc bd : Int} {bs bf v : Bool} (h : BodAt w b ⟨bc, bd, bs, bf⟩) : BodAt (w.setCell ⟨b, 2, none⟩ (.bool v)) b ⟨bc, bd, v, bf⟩ := by
  unfold BodAt at h ⊢
  simp [World.setCell, Array.getElem?_modify, h]
theorem fins_yes {a : AgtD} {r : Int} {b : BodD} (h : finsB b = true) : finA a b = ⟨a.las, a.dst, a.srv, 2, b.cel⟩ ∧ finB b = ⟨b.cel, b.dst, false, b.flt⟩ ∧ finL a r b = [repF ⟨a.las, a.dst, a.srv, 2, b.cel⟩ r] := ⟨if_pos h, if_pos h, if_pos h⟩
theorem fins_no {a : AgtD} {r : Int} {b : BodD} (h : finsB b = false) : finA a b = a ∧ finB b = b ∧ finL a r b = [] := ⟨if_neg (by rw [h]; decide), if_neg (by rw [h]; decide), if_neg (by rw [h]; decide)⟩
set_option maxRecDepth 100000 in
set_option maxHeartbeats 8000000 in
theorem finish_c (a : AgtD) (r : Int) (b : BodD) (w : World) : Calls Try.prog 20 #[AV a, .int .i64 r, BV b] w (ABFPost w (finA a b) (finB b) (finL a r b)) := by
  have HT := Lib.hid (five_ab w a b)
  have HP := Lib.hid (fun g W (hh : Holds W (some ⟨g, 0, none⟩) (bodS.cs [b])) => devFinish_c (some ⟨g, 0, none⟩) 1 1 [b] rfl 0 false W hh (by decide))
  have HC := Lib.hid (fun k W (hb : An0 W k) => reported_c a r 2 b.cel k W hb)
  have HFT := Lib.hid (fin_t (b := b) false)
  have HFF := Lib.hid (fin_f (b := b) false)
  have HRT := Lib.hid (fins_yes (a := a) (r := r) (b := b))
  have HRF := Lib.hid (fins_no (a := a) (r := r) (b := b))
  unfold RptPost at HC
  generalize finL a r b = L at *
  generalize finA a b = R at *
  generalize finB b = Q at *
  generalize doE false [b] 0 4 0 = E at *
  generalize doL false [b] 0 4 0 = M at *
  generalize finsB b = z at *
  obtain ⟨las, dst, srv, rpt, cel⟩ := a
  obtain ⟨bc, bd, bs, bf⟩ := b
  go_enter Try.func20, Try.ntmps20
  go_wp2_with fail
  have hs5 : (((((w.alloc (.cells (AC ⟨las, dst, srv, rpt, cel⟩) 32)).alloc (.cells (BC ⟨bc, bd, bs, bf⟩) 34)).alloc (.cells (AC ⟨0, 0, false, 0, 0⟩) 32)).alloc (.cells (BC ⟨0, 0, false, false⟩) 34)).alloc (.cells #[.slice none 0 0] 72)).heap.size = w.heap.size + 1 + 1 + 1 + 1 + 1 := by simp
  generalize (((((w.alloc (.cells (AC ⟨las, dst, srv, rpt, cel⟩) 32)).alloc (.cells (BC ⟨bc, bd, bs, bf⟩) 34)).alloc (.cells (AC ⟨0, 0, false, 0, 0⟩) 32)).alloc (.cells (BC ⟨0, 0, false, false⟩) 34)).alloc (.cells #[.slice none 0 0] 72)) = w5 at *
  have hh5 := ownsRow_holds (holds_one (BodAt.new w5 ⟨bc, bd, bs, bf⟩))
  rw [hs5] at hh5
  refine (HP.out _ _ hh5).mono ?_
  rintro e w7 ⟨v, rfl, ho, hb7⟩
  obtain ⟨t1, t2, t3, t4, t5, t6⟩ := HT.out
  have hb5 : Below w5.heap.size w5 w7 := (below_newF w5 _).trans (hb7.mono (by simp))
  have HA := Lib.hid (t1.keep hb5)
  have HB := Lib.hid (t2.keep hb5)
  have HZ := Lib.hid (t3.keep hb5)
  have HY := Lib.hid (t4.keep hb5)
  have HS := Lib.hid (t5.keep hb5)
  have HW := Lib.hid (t6.trans (hb5.mono t6.size))
  have HO := Lib.hid (show bodS.Own w7 (w.heap.size) v M from ho.base (by simp; omega))
  clear t1 t2 t3 t4 t5 t6 hb5 hb7 ho hh5 HT HP
  rcases z with _ | _
  · have HR := Lib.hid (HRF.out rfl)
    obtain ⟨rfl, rfl⟩ := HFF.out rfl
    obtain ⟨A7, c7, rfl, _⟩ := HO.out.form
    clear HRT HRF HFT HFF HC HO
    have s0 := HS.out.cell0
    obtain ⟨x0, x1, x2, x3, x4⟩ := HA.out.cell
    obtain ⟨y0, y1, y2, y3⟩ := HB.out.cell
    obtain ⟨z0, z1, z2, z3, z4⟩ := HZ.out.cell
    obtain ⟨u0, u1, u2, u3⟩ := HY.out.cell
    have xf := HA.out.frozen
    have yf := HB.out.frozen
    have zf := HZ.out.frozen
    have uf := HY.out.frozen
    go_upto_region 6 with fail
    obtain ⟨e1, e2, e3⟩ := HR.out
    subst e1 e2 e3
    have HE := Lib.hid (both_after HZ.out HY.out (by omega) HW.out (by omega) (by omega) (own_nilF _ (w.heap.size + 1 + 1 + 1 + 1 + 1)) (by omega) (by omega) ⟨las, dst, srv, rpt, cel⟩ ⟨bc, bd, bs, bf⟩)
    go_region
    all_goals
      go_wp2
      refine bodyPost_ret (results_agb rfl _ _ _ _ ⟨las, dst, srv, rpt, cel⟩ ⟨bc, bd, bs, bf⟩ (.slice none 0 0) rfl ?_ rfl ?_ rfl) rfl ⟨(.slice none 0 0), rfl, ?_, ?_⟩
      all_goals first | with_reducible exact HE.out.1.1 | with_reducible exact HE.out.1.2.1 | with_reducible exact HE.out.1.2.2.1 | with_reducible exact HE.out.1.2.2.2 | with_reducible exact HE.out.2.1 | with_reducible exact HE.out.2.2.1 | with_reducible exact HE.out.2.2.2.1 | with_reducible exact HE.out.2.2.2.2
  · have HR := Lib.hid (HRT.out rfl)
    obtain ⟨rfl, rfl⟩ := HFT.out rfl
    obtain ⟨A7, c7, rfl, _⟩ := HO.out.form
    obtain ⟨b7, o7, rfl, p0, p1, p2, p3⟩ := one_cells (ownsRow_holds HO.out)
    clear HRT HRF HFT HFF HO
    dsimp only at p0 p1 p2 p3
    obtain ⟨x0, x1, x2, x3, x4⟩ := HA.out.cell
    obtain ⟨y0, y1, y2, y3⟩ := HB.out.cell
    obtain ⟨z0, z1, z2, z3, z4⟩ := HZ.out.cell
    obtain ⟨u0, u1, u2, u3⟩ := HY.out.cell
    have xf := HA.out.frozen
    have yf := HB.out.frozen
    have zf := HZ.out.frozen
    have uf := HY.out.frozen
    go_upto_region 5 with fail
    have hg := put4B_grown w7 (w.heap.size + 1) ⟨bc, bd, false, bf⟩
    have hnB : BodAt (put4B w7 (w.heap.size + 1) ⟨bc, bd, false, bf⟩) (w.heap.size + 1) ⟨bc, bd, false, bf⟩ := HB.out.put4 ⟨bc, bd, false, bf⟩
    replace HB := Lib.hid hnB
    replace HA := Lib.hid (HA.out.grown hg (fun e => by injection e with e; omega))
    replace HZ := Lib.hid (HZ.out.grown hg (fun e => by injection e with e; omega))
    replace HY := Lib.hid (BodAt.grown HY.out hg (fun e => by injection e with e; omega))
    replace HS := Lib.hid (HS.out.grown hg (fun e => by injection e with e; omega))
    replace HW := Lib.hid (put4B_below (X := w.heap.size + 1) (b := ⟨bc, bd, false, bf⟩) HW.out (by omega))
    change Code.wp _ _ _ _ (put4B w7 (w.heap.size + 1) ⟨bc, bd, false, bf⟩)
    generalize put4B w7 (w.heap.size + 1) ⟨bc, bd, false, bf⟩ = w8 at *
    clear hg hnB
    clear x0 x1 x2 x3 x4 y0 y1 y2 y3 z0 z1 z2 z3 z4 u0 u1 u2 u3 xf yf zf uf
    clear p0 p1 p2 p3
    obtain ⟨x0, x1, x2, x3, x4⟩ := HA.out.cell
    obtain ⟨y0, y1, y2, y3⟩ := HB.out.cell
    obtain ⟨z0, z1, z2, z3, z4⟩ := HZ.out.cell
    obtain ⟨u0, u1, u2, u3⟩ := HY.out.cell
    have xf := HA.out.frozen
    have yf := HB.out.frozen
    have zf := HZ.out.frozen
    have uf := HY.out.frozen
    go_wp2_with fail
    have hw8 := block_lt HS.out
    refine (HC.out _ _ HS.out).mono ?_
    rintro e w9 ⟨rfl, h1, hg9⟩
    have H1 := Lib.hid h1
    replace HA := Lib.hid (HA.out.grown hg9 (fun e => by injection e with e; omega))
    replace HB := Lib.hid (BodAt.grown HB.out hg9 (fun e => by injection e with e; omega))
    replace HZ := Lib.hid (HZ.out.grown hg9 (fun e => by injection e with e; omega))
    replace HY := Lib.hid (BodAt.grown HY.out hg9 (fun e => by injection e with e; omega))
    replace HW := Lib.hid (HW.out.grown hg9 HW.out.size (fun k hk => by injection hk with hk; omega))
    clear HS h1 hg9 HC
    have HS := Lib.hid H1.out
    clear H1
    clear x0 x1 x2 x3 x4 y0 y1 y2 y3 z0 z1 z2 z3 z4 u0 u1 u2 u3 xf yf zf uf
    obtain ⟨x0, x1, x2, x3, x4⟩ := HA.out.cell
    obtain ⟨y0, y1, y2, y3⟩ := HB.out.cell
    obtain ⟨z0, z1, z2, z3, z4⟩ := HZ.out.cell
    obtain ⟨u0, u1, u2, u3⟩ := HY.out.cell
    have xf := HA.out.frozen
    have yf := HB.out.frozen
    have zf := HZ.out.frozen
    have uf := HY.out.frozen
    go_upto_region 6 with fail
    have hg := put5A_grown w9 (w.heap.size) ⟨las, dst, srv, 2, bc⟩
    have hnA : AgAt (put5A w9 (w.heap.size) ⟨las, dst, srv, 2, bc⟩) (w.heap.size) ⟨las, dst, srv, 2, bc⟩ := HA.out.put5 ⟨las, dst, srv, 2, bc⟩
    replace HA := Lib.hid hnA
    replace HB := Lib.hid (BodAt.grown HB.out hg (fun e => by injection e with e; omega))
    replace HZ := Lib.hid (HZ.out.grown hg (fun e => by injection e with e; omega))
    replace HY := Lib.hid (BodAt.grown HY.out hg (fun e => by injection e with e; omega))
    replace HS := Lib.hid (HS.out.far hg (by omega) (by omega))
    replace HW := Lib.hid (put5A_below (X := w.heap.size) (a := ⟨las, dst, srv, 2, bc⟩) HW.out (by omega))
    change Code.wp _ _ _ _ (put5A w9 (w.heap.size) ⟨las, dst, srv, 2, bc⟩)
    generalize put5A w9 (w.heap.size) ⟨las, dst, srv, 2, bc⟩ = w10 at *
    clear hg hnA
    clear x0 x1 x2 x3 x4 y0 y1 y2 y3 z0 z1 z2 z3 z4 u0 u1 u2 u3 xf yf zf uf
    obtain ⟨x0, x1, x2, x3, x4⟩ := HA.out.cell
    obtain ⟨y0, y1, y2, y3⟩ := HB.out.cell
    obtain ⟨z0, z1, z2, z3, z4⟩ := HZ.out.cell
    obtain ⟨u0, u1, u2, u3⟩ := HY.out.cell
    have xf := HA.out.frozen
    have yf := HB.out.frozen
    have zf := HZ.out.frozen
    have uf := HY.out.frozen
    obtain ⟨A, c, hs0, ho⟩ := HS.out
    have HO := Lib.hid ho
    have s0 : w10.cell? ⟨w.heap.size + 1 + 1 + 1 + 1, 0, none⟩ = some (.slice A 1 c) := by rw [cell_of_row _ _ _ _ _ (0, 0) hs0]; rfl
    clear hs0 ho HS
    obtain ⟨e1, e2, e3⟩ := HR.out
    subst e1 e2 e3
    have HE := Lib.hid (both_after HZ.out HY.out (by omega) HW.out (by omega) (by omega) HO.out (by omega) (by omega) ⟨las, dst, srv, 2, bc⟩ ⟨bc, bd, false, bf⟩)
    go_region
    all_goals
      go_wp2
      refine bodyPost_ret (results_agb rfl _ _ _ _ ⟨las, dst, srv, 2, bc⟩ ⟨bc, bd, false, bf⟩ (.slice A 1 c) rfl ?_ rfl ?_ rfl) rfl ⟨(.slice A 1 c), rfl, ?_, ?_⟩
      all_goals first | with_reducible exact HE.out.1.1 | with_reducible exact HE.out.1.2.1 | with_reducible exact HE.out.1.2.2.1 | with_reducible exact HE.out.1.2.2.2 | with_reducible exact HE.out.2.1 | with_reducible exact HE.out.2.2.1 | with_reducible exact HE.out.2.2.2.1 | with_reducible exact HE.out.2.2.2.2
set_option maxRecDepth 100000 in
set_option maxHeartbeats 8000000 in
theorem refFinish_c (a : AgtD) (r : Int) (b : BodD) (w : World) : Calls Try.prog 21 #[AV a, .int .i64 r, BV b] w (ABFPost w (finA a b) (finB b) (finL a r b)) := by
  have HT := Lib.hid (four_ab w a b)
  have HC := Lib.hid (fun W => refReportO_c ⟨a.las, a.dst, a.srv, 2, b.cel⟩ r W)
  have HRT := Lib.hid (fins_yes (a := a) (r := r) (b := b))
  have HRF := Lib.hid (fins_no (a := a) (r := r) (b := b))
  have HFI := Lib.hid (show finsB b = (b.cel != -1 && b.srv && !b.flt) from rfl)
  generalize finL a r b = L at *
  generalize finA a b = R at *
  generalize finB b = Q at *
  generalize finsB b = z at *
  obtain ⟨las, dst, srv, rpt, cel⟩ := a
  obtain ⟨bc, bd, bs, bf⟩ := b
  go_enter Try.func21, Try.ntmps21
  go_upto_region 1 with fail
  generalize ((((w.alloc (.cells (AC ⟨las, dst, srv, rpt, cel⟩) 32)).alloc (.cells (BC ⟨bc, bd, bs, bf⟩) 34)).alloc (.cells (AC ⟨0, 0, false, 0, 0⟩) 32)).alloc (.cells (BC ⟨0, 0, false, false⟩) 34)) = w5 at *
  obtain ⟨t1, t2, t3, t4, t6, hs5⟩ := HT.out
  have HA := Lib.hid t1
  have HB := Lib.hid t2
  have HZ := Lib.hid t3
  have HY := Lib.hid t4
  have HW := Lib.hid t6
  clear t1 t2 t3 t4 t6 HT
  by_cases h1 : bc = -1
  · have HR := Lib.hid (HRF.out (by rw [HFI.out]; simp [h1]))
    have h1' : (bc == -1) = true := by simpa using h1
    clear HRT HRF HFI HC h1
    obtain ⟨x0, x1, x2, x3, x4⟩ := HA.out.cell
    obtain ⟨y0, y1, y2, y3⟩ := HB.out.cell
    obtain ⟨z0, z1, z2, z3, z4⟩ := HZ.out.cell
    obtain ⟨u0, u1, u2, u3⟩ := HY.out.cell
    have xf := HA.out.frozen
    have yf := HB.out.frozen
    have zf := HZ.out.frozen
    have uf := HY.out.frozen
    go_upto_region 2 with fail
    obtain ⟨e1, e2, e3⟩ := HR.out
    subst e1 e2 e3
    have HE := Lib.hid (both_after HZ.out HY.out (by omega) HW.out (by omega) (by omega) (own_nilF _ (w.heap.size + 1 + 1 + 1 + 1 + 1)) (by omega) (by omega) ⟨las, dst, srv, rpt, cel⟩ ⟨bc, bd, bs, bf⟩)
    go_region
    all_goals
      go_wp2
      refine bodyPost_ret (results_agb rfl _ _ _ _ ⟨las, dst, srv, rpt, cel⟩ ⟨bc, bd, bs, bf⟩ (.slice none 0 0) rfl ?_ rfl ?_ rfl) rfl ⟨(.slice none 0 0), rfl, ?_, ?_⟩
      all_goals first | with_reducible exact HE.out.1.1 | with_reducible exact HE.out.1.2.1 | with_reducible exact HE.out.1.2.2.1 | with_reducible exact HE.out.1.2.2.2 | with_reducible exact HE.out.2.1 | with_reducible exact HE.out.2.2.1 | with_reducible exact HE.out.2.2.2.1 | with_reducible exact HE.out.2.2.2.2
  · have h1' : (bc == -1) = false := by simpa using h1
    rcases bs with _ | _
    · have HR := Lib.hid (HRF.out (by rw [HFI.out]; simp))
      clear HRT HRF HFI HC h1
      obtain ⟨x0, x1, x2, x3, x4⟩ := HA.out.cell
      obtain ⟨y0, y1, y2, y3⟩ := HB.out.cell
      obtain ⟨z0, z1, z2, z3, z4⟩ := HZ.out.cell
      obtain ⟨u0, u1, u2, u3⟩ := HY.out.cell
      have xf := HA.out.frozen
      have yf := HB.out.frozen
      have zf := HZ.out.frozen
      have uf := HY.out.frozen
      go_upto_region 2 with fail
      obtain ⟨e1, e2, e3⟩ := HR.out
      subst e1 e2 e3
      have HE := Lib.hid (both_after HZ.out HY.out (by omega) HW.out (by omega) (by omega) (own_nilF _ (w.heap.size + 1 + 1 + 1 + 1 + 1)) (by omega) (by omega) ⟨las, dst, srv, rpt, cel⟩ ⟨bc, bd, false, bf⟩)
      go_region
      all_goals
        go_wp2
        refine bodyPost_ret (results_agb rfl _ _ _ _ ⟨las, dst, srv, rpt, cel⟩ ⟨bc, bd, false, bf⟩ (.slice none 0 0) rfl ?_ rfl ?_ rfl) rfl ⟨(.slice none 0 0), rfl, ?_, ?_⟩
        all_goals first | with_reducible exact HE.out.1.1 | with_reducible exact HE.out.1.2.1 | with_reducible exact HE.out.1.2.2.1 | with_reducible exact HE.out.1.2.2.2 | with_reducible exact HE.out.2.1 | with_reducible exact HE.out.2.2.1 | with_reducible exact HE.out.2.2.2.1 | with_reducible exact HE.out.2.2.2.2
    · rcases bf with _ | _
      · have HR := Lib.hid (HRT.out (by rw [HFI.out]; simp [h1]))
        clear HRT HRF HFI h1
        obtain ⟨x0, x1, x2, x3, x4⟩ := HA.out.cell
        obtain ⟨y0, y1, y2, y3⟩ := HB.out.cell
        obtain ⟨z0, z1, z2, z3, z4⟩ := HZ.out.cell
        obtain ⟨u0, u1, u2, u3⟩ := HY.out.cell
        have xf := HA.out.frozen
        have yf := HB.out.frozen
        have zf := HZ.out.frozen
        have uf := HY.out.frozen
        go_upto_region 4 with fail
        have hgb : ∀ (W : World) (i : Nat) (v : Value), W.grownBy (W.setCell ⟨w.heap.size + 1, i, none⟩ v) (some (w.heap.size + 1)) := fun W i v => grown_put (Below.refl W.heap.size W) (Nat.le_refl _)
        have hnB : BodAt (w5.setCell ⟨w.heap.size + 1, 2, none⟩ (.bool false)) (w.heap.size + 1) ⟨bc, bd, false, false⟩ := HB.out.put2
        replace HB := Lib.hid hnB
        have hg := hgb w5 2 (.bool false)
        replace HA := Lib.hid (HA.out.grown hg (fun e => by injection e with e; omega))
        replace HZ := Lib.hid (HZ.out.grown hg (fun e => by injection e with e; omega))
        replace HY := Lib.hid (BodAt.grown HY.out hg (fun e => by injection e with e; omega))
        replace HW := Lib.hid (below_put (g := w.heap.size + 1) (i := 2) (v := .bool false) HW.out (by omega))
        generalize w5.setCell ⟨w.heap.size + 1, 2, none⟩ (.bool false) = w6 at *
        clear hg hgb hnB
        clear x0 x1 x2 x3 x4 y0 y1 y2 y3 z0 z1 z2 z3 z4 u0 u1 u2 u3 xf yf zf uf
        obtain ⟨x0, x1, x2, x3, x4⟩ := HA.out.cell
        obtain ⟨y0, y1, y2, y3⟩ := HB.out.cell
        obtain ⟨z0, z1, z2, z3, z4⟩ := HZ.out.cell
        obtain ⟨u0, u1, u2, u3⟩ := HY.out.cell
        have xf := HA.out.frozen
        have yf := HB.out.frozen
        have zf := HZ.out.frozen
        have uf := HY.out.frozen
        go_region
        go_upto_region 5 with fail
        have hga : ∀ (W : World) (i : Nat) (v : Value), W.grownBy (W.setCell ⟨w.heap.size, i, none⟩ v) (some w.heap.size) := fun W i v => grown_put (Below.refl W.heap.size W) (Nat.le_refl _)
        have hnA : AgAt ((w6.setCell ⟨w.heap.size, 3, none⟩ (.int .i64 2)).setCell ⟨w.heap.size, 4, none⟩ (.int .i64 bc)).drew w.heap.size ⟨las, dst, srv, 2, bc⟩ := (HA.out.put34v).keep (Below.refl _ _).drew
        replace HA := Lib.hid hnA
        replace HB := Lib.hid ((BodAt.grown (BodAt.grown HB.out (hga _ 3 (.int .i64 2)) (fun e => by injection e with e; omega)) (hga _ 4 (.int .i64 bc)) (fun e => by injection e with e; omega)).keep (Below.refl _ _).drew)
        replace HZ := Lib.hid (((HZ.out.grown (hga _ 3 (.int .i64 2)) (fun e => by injection e with e; omega)).grown (hga _ 4 (.int .i64 bc)) (fun e => by injection e with e; omega)).keep (Below.refl _ _).drew)
        replace HY := Lib.hid ((BodAt.grown (BodAt.grown HY.out (hga _ 3 (.int .i64 2)) (fun e => by injection e with e; omega)) (hga _ 4 (.int .i64 bc)) (fun e => by injection e with e; omega)).keep (Below.refl _ _).drew)
        replace HW := Lib.hid (below_put (g := w.heap.size) (i := 4) (v := .int .i64 bc) (below_put (g := w.heap.size) (i := 3) (v := .int .i64 2) HW.out (Nat.le_refl _)) (Nat.le_refl _)).drew
        generalize ((w6.setCell ⟨w.heap.size, 3, none⟩ (.int .i64 2)).setCell ⟨w.heap.size, 4, none⟩ (.int .i64 bc)).drew = w8 at *
        clear hga hnA
        clear x0 x1 x2 x3 x4 y0 y1 y2 y3 z0 z1 z2 z3 z4 u0 u1 u2 u3 xf yf zf uf
        obtain ⟨x0, x1, x2, x3, x4⟩ := HA.out.cell
        obtain ⟨y0, y1, y2, y3⟩ := HB.out.cell
        obtain ⟨z0, z1, z2, z3, z4⟩ := HZ.out.cell
        obtain ⟨u0, u1, u2, u3⟩ := HY.out.cell
        have xf := HA.out.frozen
        have yf := HB.out.frozen
        have zf := HZ.out.frozen
        have uf := HY.out.frozen
        have hwy := block_lt HY.out
        have HSK : Hid (∀ W, AgAt W (w.heap.size) ⟨las, dst, srv, 2, bc⟩ → BodAt W (w.heap.size + 1) ⟨bc, bd, false, false⟩ → (W.cell? ⟨w.heap.size, 0, none⟩ = some (.int .u64 las) ∧ W.cell? ⟨w.heap.size, 1, none⟩ = some (.int .i64 dst) ∧ W.cell? ⟨w.heap.size, 2, none⟩ = some (.bool srv) ∧ W.cell? ⟨w.heap.size, 3, none⟩ = some (.int .i64 2) ∧ W.cell? ⟨w.heap.size, 4, none⟩ = some (.int .i64 bc)) ∧ W.cell? ⟨w.heap.size + 1, 0, none⟩ = some (.int .i64 bc) ∧ W.cell? ⟨w.heap.size + 1, 1, none⟩ = some (.int .i64 bd) ∧ W.cell? ⟨w.heap.size + 1, 2, none⟩ = some (.bool false) ∧ W.cell? ⟨w.heap.size + 1, 3, none⟩ = some (.bool false)) := Lib.hid (fun W ha hb => ⟨ha.cell, hb.cell⟩)
        go_region_held3 (fun W => (W.cell? ⟨w.heap.size, 0, none⟩ = some (.int .u64 las) ∧ W.cell? ⟨w.heap.size, 1, none⟩ = some (.int .i64 dst) ∧ W.cell? ⟨w.heap.size, 2, none⟩ = some (.bool srv) ∧ W.cell? ⟨w.heap.size, 3, none⟩ = some (.int .i64 2) ∧ W.cell? ⟨w.heap.size, 4, none⟩ = some (.int .i64 bc)) ∧ W.cell? ⟨w.heap.size + 1, 0, none⟩ = some (.int .i64 bc) ∧ W.cell? ⟨w.heap.size + 1, 1, none⟩ = some (.int .i64 bd) ∧ W.cell? ⟨w.heap.size + 1, 2, none⟩ = some (.bool false) ∧ W.cell? ⟨w.heap.size + 1, 3, none⟩ = some (.bool false)) ((refine HSK.out _ ?_ ?_) <;> (repeat (first | (with_reducible exact HA.out) | (with_reducible exact HB.out) | (with_reducible exact HA9.out) | (with_reducible exact HB9.out) | (with_reducible refine AgAt.drewA ?_) | (with_reducible refine BodAt.drewB ?_) | (refine AgAt.far ?_ (by omega)) | (refine BodAt.far ?_ (by omega))))) (first | (go_at_call 35; refine (HC.out _).mono ?_; rintro e w9 ⟨v, rfl, hf, hb9⟩; have hb : Below w8.heap.size w8 w9 := (by first | exact hb9 | exact (Below.refl _ _).drew.trans hb9); obtain ⟨A, c, rfl, hc9⟩ := own_form hf; have HF := Lib.hid (show OwnFr w9 w8.heap.size (.slice A 1 c) [repF ⟨las, dst, srv, 2, bc⟩ r] from hf); have HA9 := Lib.hid (HA.out.keep hb); have HB9 := Lib.hid (HB.out.keep hb); have HZ9 := Lib.hid (HZ.out.keep hb); have HY9 := Lib.hid (HY.out.keep hb); have HW9 := Lib.hid (HW.out.trans (hb.mono HW.out.size)); obtain ⟨zz0, zz1, zz2, zz3, zz4⟩ := HZ9.out.cell; obtain ⟨uu0, uu1, uu2, uu3⟩ := HY9.out.cell; have zzf := HZ9.out.frozen; have uuf := HY9.out.frozen; clear hb hb9 hf hc9))
        all_goals
          obtain ⟨e1, e2, e3⟩ := HR.out
          subst e1 e2 e3
          go_wp2
          have HE := Lib.hid (both_plain HZ9.out HY9.out (by omega) HW9.out (by omega) (by omega) HF.out (by omega) (by omega) ⟨las, dst, srv, 2, bc⟩ ⟨bc, bd, false, false⟩)
          refine bodyPost_ret (results_agb rfl _ _ _ _ ⟨las, dst, srv, 2, bc⟩ ⟨bc, bd, false, false⟩ (.slice A 1 c) rfl ?_ rfl ?_ rfl) rfl ⟨.slice A 1 c, rfl, ?_, ?_⟩
          all_goals first | with_reducible exact HE.out.1.1 | with_reducible exact HE.out.1.2.1 | with_reducible exact HE.out.1.2.2.1 | with_reducible exact HE.out.1.2.2.2 | with_reducible exact HE.out.2.1 | with_reducible exact HE.out.2.2.1 | with_reducible exact HE.out.2.2.2.1 | with_reducible exact HE.out.2.2.2.2
      · have HR := Lib.hid (HRF.out (by rw [HFI.out]; simp))
        clear HRT HRF HFI HC h1
        obtain ⟨x0, x1, x2, x3, x4⟩ := HA.out.cell
        obtain ⟨y0, y1, y2, y3⟩ := HB.out.cell
        obtain ⟨z0, z1, z2, z3, z4⟩ := HZ.out.cell
        obtain ⟨u0, u1, u2, u3⟩ := HY.out.cell
        have xf := HA.out.frozen
        have yf := HB.out.frozen
        have zf := HZ.out.frozen
        have uf := HY.out.frozen
        go_upto_region 2 with fail
        obtain ⟨e1, e2, e3⟩ := HR.out
        subst e1 e2 e3
        have HE := Lib.hid (both_after HZ.out HY.out (by omega) HW.out (by omega) (by omega) (own_nilF _ (w.heap.size + 1 + 1 + 1 + 1 + 1)) (by omega) (by omega) ⟨las, dst, srv, rpt, cel⟩ ⟨bc, bd, true, true⟩)
        go_region
        all_goals
          go_wp2
          refine bodyPost_ret (results_agb rfl _ _ _ _ ⟨las, dst, srv, rpt, cel⟩ ⟨bc, bd, true, true⟩ (.slice none 0 0) rfl ?_ rfl ?_ rfl) rfl ⟨(.slice none 0 0), rfl, ?_, ?_⟩
          all_goals first | with_reducible exact HE.out.1.1 | with_reducible exact HE.out.1.2.1 | with_reducible exact HE.out.1.2.2.1 | with_reducible exact HE.out.1.2.2.2 | with_reducible exact HE.out.2.1 | with_reducible exact HE.out.2.2.1 | with_reducible exact HE.out.2.2.2.1 | with_reducible exact HE.out.2.2.2.2
end Go.Proofs.Ytmdnkpiihhaoeaa
