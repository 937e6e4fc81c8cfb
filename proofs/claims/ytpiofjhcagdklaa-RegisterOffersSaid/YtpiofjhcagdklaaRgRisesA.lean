/- What a round of RegisterRises keeps. -/
import Derived.Test.YtpiofjhcagdklaaRgKnown
import Derived.Test.YtpiofjhcagdklaaTpArg
namespace Go.Proofs.Ytpiofjhcagdklaa
open Go Go.RowKit Fl

theorem cut_first {a b : Prop} (h : a) (k : a → b) : b := k h
theorem SnAt.grown {w w' : World} {b : Nat} {f : SndD} {row : Option Nat} (h : SnAt w b f) (hg : w.grownBy w' row) (hr : row ≠ some b) : SnAt w' b f := (hg.block b (block_lt h) (fun e => hr e.symm)).trans h
theorem SnAt.drew {w : World} {b : Nat} {f : SndD} (h : SnAt w b f) : SnAt w.drew b f := h.keep (Below.refl _ _).drew
theorem SnAt.alloc {w : World} {b : Nat} {f : SndD} (h : SnAt w b f) (o : Obj) : SnAt (w.alloc o) b f := h.keep (below_newF _ _)
theorem SnAt.newz (w : World) : SnAt (w.alloc (.cells #[.int .u64 0, .bool false, .int .i64 0, .int .i64 0] 24)) w.heap.size zeroSn := SnAt.new w zeroSn
theorem SnAt.newd (w : World) : SnAt (w.drew.alloc (.cells #[.int .u64 0, .bool false, .int .i64 0, .int .i64 0] 24)) w.heap.size zeroSn := SnAt.new w.drew zeroSn
def put4W (w : World) (b : Nat) (f : SndD) : World := (((w.setCell ⟨b, 0, none⟩ (.int .u64 f.seq)).setCell ⟨b, 1, none⟩ (.bool f.isOpen)).setCell ⟨b, 2, none⟩ (.int .i64 f.cell)).setCell ⟨b, 3, none⟩ (.int .i64 f.flag)
theorem put_grown (a : World) (X i : Nat) (v : Value) : a.grownBy (a.setCell ⟨X, i, none⟩ v) (some X) := ⟨rfl, rfl, rfl, by simp [World.setCell], fun k _ hne => Below.heap_setCell a ⟨X, i, none⟩ v k (fun e => hne (by rw [e]))⟩
theorem SnAt.put {w : World} {b X i : Nat} {f : SndD} {v : Value} (h : SnAt w b f) (hX : X ≠ b) : SnAt (w.setCell ⟨X, i, none⟩ v) b f := h.grown (put_grown w X i v) (fun e => by injection e with e; exact hX e)
structure RS (B g Y : Nat) (w0 : World) (s : SndD) (T : Nat) (W : World) : Prop where
  sn : SnAt W Y s
  tape : TapeOk W B g T
  below : Below B w0 W
  by_ : B ≤ Y ∧ Y ≠ g
section
variable {B g Y T : Nat} {w0 W W' : World} {s : SndD}
theorem RS.lt (h : RS B g Y w0 s T W) : B ≤ g ∧ g < W.heap.size ∧ Y < W.heap.size := by
  have h1 := block_lt h.sn
  obtain ⟨A, n, c, at_, zs, h2, _, _, h3, _⟩ := h.tape
  exact ⟨h3, block_lt h2, h1⟩
theorem RS.keep (h : RS B g Y w0 s T W) (hb : Below W.heap.size W W') : RS B g Y w0 s T W' :=
  ⟨h.sn.keep hb, h.tape.keep hb, h.below.trans (hb.mono (by have := h.lt; omega)), h.by_⟩
theorem RS.drew (h : RS B g Y w0 s T W) : RS B g Y w0 s T W.drew := h.keep (Below.refl _ _).drew
theorem RS.alloc (h : RS B g Y w0 s T W) (o : Obj) : RS B g Y w0 s T (W.alloc o) := h.keep (below_newF _ _)
theorem RS.next (h : RS B g Y w0 s T W) (ht : TapeOk W' B g (T + 1)) (hg : W.grownBy W' (some g)) : RS B g Y w0 s (T + 1) W' :=
  ⟨h.sn.grown hg (fun e => by injection e with e; exact h.by_.2 e.symm), ht, h.below.grown hg (by have := h.lt; omega) (fun k hk => by injection hk with hk; exact hk ▸ h.lt.1), h.by_⟩
theorem RS.put {X i : Nat} {v : Value} (h : RS B g Y w0 s T W) (hY : X ≠ Y) (hg : X ≠ g) (hB : B ≤ X) : RS B g Y w0 s T (W.setCell ⟨X, i, none⟩ v) :=
  ⟨h.sn.grown (put_grown W X i v) (fun e => by injection e with e; exact hY e), h.tape.grown (put_grown W X i v) (fun e => by injection e with e; exact hg e) (fun k hk => by injection hk with hk; omega), below_put h.below hB, h.by_⟩
theorem RS.set (h : RS B g Y w0 s T W) (s' : SndD) : RS B g Y w0 s' T (put4W W Y s') := by
  obtain ⟨h1, h2⟩ := h.by_
  have h4 : RS B g Y w0 s T W → W.grownBy (put4W W Y s') (some Y) := fun _ => ⟨rfl, rfl, rfl, by simp [put4W, World.setCell], fun k hk hne => by
    have e : ∀ (a : World) (i : Nat) (v : Value), (a.setCell ⟨Y, i, none⟩ v).heap[k]? = a.heap[k]? := fun a i v => Below.heap_setCell a ⟨Y, i, none⟩ v k (fun e => hne (by rw [e]))
    unfold put4W
    rw [e, e, e, e]⟩
  exact ⟨h.sn.put4 s', h.tape.grown (h4 h) (fun e => by injection e with e; exact h2 e) (fun k hk => by injection hk with hk; omega), below_put (below_put (below_put (below_put h.below h1) h1) h1) h1, h.by_⟩
end
theorem next_rs {B g Y : Nat} {w0 : World} {s : SndD} (T : Nat) (n : Int) (W : World) (h : RS B g Y w0 s T W) (hT : T ≤ 1000) (h1 : 1 ≤ n) (hn : n ≤ 1000000) : Calls Try.prog 15 #[.pointer (some ⟨g, 0, none⟩), .int .i64 n] W fun e w' => ∃ r : Nat, (r : Int) < n ∧ e = .returned (.int .i64 r) ∧ RS B g Y w0 s (T + 1) w' ∧ (∀ b z, b ≠ g → SnAt W b z → SnAt w' b z) ∧ W.heap.size ≤ w'.heap.size := by
  refine (next_c B g T n W h.tape (by omega) h1 hn).mono ?_
  rintro e w' ⟨r, hr, rfl, ht, hg⟩
  exact ⟨r, hr, rfl, h.next ht hg, fun b z hb hz => hz.grown hg (fun e => by injection e with e; exact hb e.symm), hg.size⟩
theorem fresh_q (a b : Int) (z : Bool) (h : freshB a b = z) (w : World) : Calls Try.prog 13 #[.int .u64 a, .int .u64 b] w fun e w' => e = .returned (.bool z) ∧ w = w' := h ▸ fresh_c a b w
end Go.Proofs.Ytpiofjhcagdklaa
