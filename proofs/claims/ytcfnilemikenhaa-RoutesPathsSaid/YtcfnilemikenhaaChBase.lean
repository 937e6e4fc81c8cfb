/- What the walks of layer 5's laws ask of components' functions, and what these then return at valid graphs. -/
import Derived.Test.YtcfnilemikenhaaCpQuot
import Derived.Test.YtcfnilemikenhaaCpFacts
import Derived.Test.YtcfnilemikenhaaRhBase
namespace Go.Proofs.Ytcfnilemikenhaa
open Go Go.RowKit Fl

def IntsRes (w : World) (l : List Int) (k : Int) (e : Ending) (w' : World) : Prop := ∃ A c, e = .returned (.tuple #[.slice A l.length c, .int .i64 k]) ∧ Holds w' A (l.map Iv) ∧ Below w.heap.size w w'
theorem IntsPost.res {w w' : World} {l : List Int} {k : Int} {e : Ending} (h : IntsPost w l k e w') : IntsRes w l k e w' := by
  obtain ⟨u, rfl, ho, hb⟩ := h
  obtain ⟨A, c, rfl, hr⟩ := own_is ho
  exact ⟨A, c, rfl, hr, hb⟩
theorem RowsPost.res {w w' : World} {l : GraphD} {k : Int} {e : Ending} (h : RowsPost w l k e w') : GraphRes w l k e w' := by
  obtain ⟨u, rfl, ho, hb⟩ := h
  obtain ⟨A, c, rfl, hr⟩ := ho.at_
  exact ⟨A, c, rfl, hr, hb⟩
/-! ### The example -/
theorem holds_blk {w : World} {n : Nat} {cs : Array Value} {e : TypeId} {fr : Nat × Nat} {l : List Value} (h : w.heap[n]? = some (.cells cs e fr)) (hl : cs.toList = l) : Holds w (some ⟨n, 0, none⟩) l := by
  subst hl
  exact .inr ⟨n, 0, rfl, block_lt h, fun j hj => by
    rw [cell_of_row w n _ cs e fr h]
    simp at hj
    simp [hj]⟩
theorem alloc4h (w : World) (o1 o2 o3 o4 : Obj) : ((((w.alloc o1).alloc o2).alloc o3).alloc o4).heap[w.heap.size]? = some o1 ∧ ((((w.alloc o1).alloc o2).alloc o3).alloc o4).heap[w.heap.size + 1]? = some o2 ∧ ((((w.alloc o1).alloc o2).alloc o3).alloc o4).heap[w.heap.size + 1 + 1]? = some o3 ∧ ((((w.alloc o1).alloc o2).alloc o3).alloc o4).heap[w.heap.size + 1 + 1 + 1]? = some o4 := by
  have e : ((((w.alloc o1).alloc o2).alloc o3).alloc o4).heap = (((w.heap.push o1).push o2).push o3).push o4 := rfl
  rw [e]
  refine ⟨?_, ?_, ?_, ?_⟩ <;> simp only [Array.getElem?_push, Array.size_push]
  · rw [if_neg (by omega), if_neg (by omega), if_neg (by omega), if_pos trivial]
  · rw [if_neg (by omega), if_neg (by omega), if_pos trivial]
  · rw [if_neg (by omega), if_pos trivial]
  · rw [if_pos trivial]
/-- Three rows of numbers, as literals lay them. -/
theorem rows3 (w : World) (n : Nat) (c1 c2 c3 : Array Value) (r1 r2 r3 : List Int) (k1 k2 k3 : Nat) (e1 e2 e3 e4 : TypeId) (h1 : c1.toList = r1.map Iv) (h2 : c2.toList = r2.map Iv) (h3 : c3.toList = r3.map Iv) (hn : n = w.heap.size) (l1 : k1 = r1.length) (l2 : k2 = r2.length) (l3 : k3 = r3.length) :
    RowsAt ((((w.alloc (.cells c1 e1)).alloc (.cells c2 e2)).alloc (.cells c3 e3)).alloc (.cells #[.slice (some ⟨n, 0, none⟩) k1 k1, .slice (some ⟨n + 1, 0, none⟩) k2 k2, .slice (some ⟨n + 1 + 1, 0, none⟩) k3 k3] e4)) (some ⟨n + 1 + 1 + 1, 0, none⟩) [r1, r2, r3] := by
  subst hn l1 l2 l3
  obtain ⟨b1, b2, b3, b4⟩ := alloc4h w (.cells c1 e1) (.cells c2 e2) (.cells c3 e3) (.cells #[.slice (some ⟨w.heap.size, 0, none⟩) r1.length r1.length, .slice (some ⟨w.heap.size + 1, 0, none⟩) r2.length r2.length, .slice (some ⟨w.heap.size + 1 + 1, 0, none⟩) r3.length r3.length] e4)
  generalize ((((w.alloc (.cells c1 e1)).alloc (.cells c2 e2)).alloc (.cells c3 e3)).alloc (.cells #[.slice (some ⟨w.heap.size, 0, none⟩) r1.length r1.length, .slice (some ⟨w.heap.size + 1, 0, none⟩) r2.length r2.length, .slice (some ⟨w.heap.size + 1 + 1, 0, none⟩) r3.length r3.length] e4)) = W at b1 b2 b3 b4 ⊢
  refine .inr ⟨w.heap.size + 1 + 1 + 1, 0, rfl, block_lt b4, fun k hk => ?_⟩
  have hk3 : k < 3 := hk
  match k, hk3 with
  | 0, _ => exact ⟨_, r1.length, by rw [cell_of_row W _ _ _ e4 _ b4]; rfl, holds_blk b1 h1⟩
  | 1, _ => exact ⟨_, r2.length, by rw [cell_of_row W _ _ _ e4 _ b4]; rfl, holds_blk b2 h2⟩
  | 2, _ => exact ⟨_, r3.length, by rw [cell_of_row W _ _ _ e4 _ b4]; rfl, holds_blk b3 h3⟩
theorem lit_holds (w : World) (n : Nat) (cs : Array Value) (e : TypeId) (l : List Value) (hn : n = w.heap.size) (hl : cs.toList = l) : Holds (w.alloc (.cells cs e)) (some ⟨n, 0, none⟩) l := by
  subst hn
  exact holds_blk (heap_alloc_new w _) hl
theorem below_alloc (w : World) (ob : Obj) : Below w.heap.size w (w.alloc ob) := (Below.refl _ _).alloc (Nat.le_refl _) _
theorem below_alloc4 (w : World) (o1 o2 o3 o4 : Obj) : Below w.heap.size w ((((w.alloc o1).alloc o2).alloc o3).alloc o4) := ((((Below.refl _ _).alloc (Nat.le_refl _) _).alloc (by simp) _).alloc (by simp; omega) _).alloc (by simp; omega) _
end Go.Proofs.Ytcfnilemikenhaa
