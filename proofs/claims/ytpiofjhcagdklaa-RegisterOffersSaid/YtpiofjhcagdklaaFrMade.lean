/- Contract of the statements' Frame: it makes a valid frame. -/
import Derived.Test.YtpiofjhcagdklaaFrDec
import Derived.Test.YtpiofjhcagdklaaTpArg
namespace Go.Proofs.Ytpiofjhcagdklaa
open Go Go.RowKit Fl

theorem gb_next {w a b : World} {g : Nat} (h : w.grownBy a (some g)) (k : a.grownBy b (some g)) : w.grownBy b (some g) :=
  ⟨k.os.trans h.os, k.tape.trans h.tape, k.output.trans h.output, Nat.le_trans h.size k.size, fun i hi hn => (k.block i (Nat.lt_of_lt_of_le hi h.size) hn).trans (h.block i hi hn)⟩
theorem gb_below {w a b : World} {g : Nat} (h : w.grownBy a (some g)) (k : Below w.heap.size a b) : w.grownBy b (some g) :=
  ⟨k.os.trans h.os, k.tape.trans h.tape, k.output.trans h.output, Nat.le_trans h.size k.size, fun i hi hn => (k.block i hi).trans (h.block i hi hn)⟩
theorem gb_refl (w : World) (g : Nat) : w.grownBy w (some g) := ⟨rfl, rfl, rfl, Nat.le_refl _, fun _ _ _ => rfl⟩
def FramePost (w : World) (B gt T : Nat) (e : Ending) (w' : World) : Prop := ∃ f : FrD, e = .returned (FV f) ∧ errF f = 0 ∧ U64 f.seq ∧ TapeOk w' B gt (T + 8) ∧ w.grownBy w' (some gt)
/-- What is there once the frame has been begun. -/
structure FM (w : World) (B gt T R X : Nat) (f : FrD) (wx : World) : Prop where
  gb : w.grownBy wx (some gt)
  tape : TapeOk wx B gt T
  zero : FrAt wx R zeroF
  fr : FrAt wx X f
theorem FM.next {w wx wy : World} {B gt T R X : Nat} {f : FrD} (h : FM w B gt T R X f wx) (ht : TapeOk wy B gt (T + 1)) (hg : wx.grownBy wy (some gt)) (hR : R ≠ gt) (hX : X ≠ gt) : FM w B gt (T + 1) R X f wy :=
  ⟨gb_next h.gb hg, ht, h.zero.grown hg (fun e => by injection e with e; exact hR e.symm), h.fr.grown hg (fun e => by injection e with e; exact hX e.symm)⟩
theorem FM.put {w wx : World} {B gt T R X i : Nat} {f f' : FrD} {v : Value} (h : FM w B gt T R X f wx) (hR : R ≠ X) (hX : X ≠ gt) (hw : w.heap.size ≤ X) (hB : B ≤ X) (hf : (FC f).setIfInBounds i v = FC f') : FM w B gt T R X f' (wx.setCell ⟨X, i, none⟩ v) := by
  have hg : wx.grownBy (wx.setCell ⟨X, i, none⟩ v) (some X) := ⟨rfl, rfl, rfl, by simp [World.setCell], fun k _ hne => Below.heap_setCell wx ⟨X, i, none⟩ v k (fun e => hne (by rw [e]))⟩
  refine ⟨gb_below h.gb ((Below.refl _ _).setCell (by simpa using hw) _), h.tape.grown hg (fun e => by injection e with e; exact hX e) (fun k hk => by injection hk with hk; omega), h.zero.grown hg (fun e => by injection e with e; exact hR e.symm), ?_⟩
  have := h.fr
  unfold FrAt at this ⊢
  rw [← hf]
  simp [World.setCell, Array.getElem?_modify, this]
def put5W (w : World) (b : Nat) (f : FrD) : World := ((((w.setCell ⟨b, 0, none⟩ (.int .i64 f.kind)).setCell ⟨b, 1, none⟩ (.int .i64 f.robot)).setCell ⟨b, 2, none⟩ (.int .u64 f.seq)).setCell ⟨b, 3, none⟩ (.int .i64 f.cell)).setCell ⟨b, 4, none⟩ (.int .i64 f.flag)
theorem FM.done {w wx : World} {B gt T R X : Nat} {f : FrD} (h : FM w B gt T R X f wx) (hR : w.heap.size ≤ R) (hB : B ≤ R) (hg : R ≠ gt) : FrAt (put5W wx R f) R f ∧ TapeOk (put5W wx R f) B gt T ∧ w.grownBy (put5W wx R f) (some gt) := by
  have hb : Below R wx (put5W wx R f) := below_put (below_put (below_put (below_put (below_put (Below.refl _ _) (Nat.le_refl _)) (Nat.le_refl _)) (Nat.le_refl _)) (Nat.le_refl _)) (Nat.le_refl _)
  have hgr : wx.grownBy (put5W wx R f) (some R) := by
    have h1 : ∀ (a : World) (i : Nat) (v : Value), a.grownBy (a.setCell ⟨R, i, none⟩ v) (some R) := fun a i v => ⟨rfl, rfl, rfl, by simp [World.setCell], fun k _ hne => Below.heap_setCell a ⟨R, i, none⟩ v k (fun e => hne (by rw [e]))⟩
    exact gb_next (gb_next (gb_next (gb_next (h1 _ _ _) (h1 _ _ _)) (h1 _ _ _)) (h1 _ _ _)) (h1 _ _ _)
  exact ⟨h.zero.put5 f, h.tape.grown hgr (fun e => by injection e with e; exact hg e) (fun k hk => by injection hk with hk; omega), gb_below h.gb (hb.mono hR)⟩
end Go.Proofs.Ytpiofjhcagdklaa
