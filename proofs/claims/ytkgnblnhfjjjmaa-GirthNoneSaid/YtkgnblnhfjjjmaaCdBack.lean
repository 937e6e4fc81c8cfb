/- Contract of slices.Backward at numbers: what it hands back goes through a list from its end on, for every loop body that leaves the list's block and the box alone. -/
import Derived.RangeFuncFrom
import Derived.RangeFuncCalls
import Derived.RangeFuncBox
import Derived.RangeFuncLeaves
import Derived.Shelf.Abstract
import Derived.WalkKit
import Derived.OwnWalkIn
import Derived.TacticsInMore
import Derived.LoopNIn
import Derived.LoopIn
import Derived.Test.YtkgnblnhfjjjmaaCdMem
namespace Go.Proofs.Ytkgnblnhfjjjmaa
open Go Go.RowKit Go.Shelf

attribute [local go_sem] Oper.semAt_some

/-- Two blocks stay as they are. -/
def KeepTwo (b1 b2 : Nat) (W W' : World) : Prop := W'.heap[b1]? = W.heap[b1]? ∧ W'.heap[b2]? = W.heap[b2]?
theorem KeepTwo.refl (b1 b2 : Nat) (W : World) : KeepTwo b1 b2 W W := ⟨rfl, rfl⟩
theorem KeepTwo.trans {b1 b2 : Nat} {A B C : World} (h : KeepTwo b1 b2 A B) (k : KeepTwo b1 b2 B C) : KeepTwo b1 b2 A C := ⟨k.1.trans h.1, k.2.trans h.2⟩
def pairsF {β : Type} (zs : List β) : List (Nat × β) := zs.mapIdx fun i x => (i, x)
def cameF {β : Type} (zs : List β) (m : Nat) : List (Nat × β) := ((pairsF zs).drop m).reverse
theorem pairsF_length {β : Type} (zs : List β) : (pairsF zs).length = zs.length := by simp [pairsF]
theorem cameF_start {β : Type} (zs : List β) : cameF zs zs.length = [] := by
  unfold cameF
  rw [List.drop_of_length_le (by rw [pairsF_length]; exact Nat.le_refl _)]
  rfl
theorem cameF_step {β : Type} {zs : List β} {p : Nat} (h : p < zs.length) : cameF zs (p + 1) ++ [(p, zs[p])] = cameF zs p := by
  unfold cameF
  have h' : p < (pairsF zs).length := by rw [pairsF_length]; exact h
  rw [List.drop_eq_getElem_cons h', List.reverse_cons]
  congr 2
  simp [pairsF]
theorem cameF_length {β : Type} {zs : List β} {m : Nat} : (cameF zs m).length = zs.length - m := by
  unfold cameF
  rw [List.length_reverse, List.length_drop, pairsF_length]
set_option maxRecDepth 100000 in
set_option maxHeartbeats 2000000 in
theorem back1_in (F : Fence) (n : Nat) (hF : F.fn 48) (hro : F.round = none) (hn : 1 ≤ n) {β : Type} (val : β → Int) (l Bs b cap : Nat) (zs : List β) (hreach : zs.length ≤ 1000000) (J Jx : List (Nat × β) → World → Prop)
    (hY : ∀ pre x W, J pre W → pre.length < zs.length → YieldAt F (n - 1) Try.prog l #[.int .i64 (x.1 : Int), .int .i64 (val x.2)] W fun e W' =>
      (e = .returned (.bool true) ∧ J (pre ++ [x]) W' ∧ KeepTwo b Bs W W') ∨ (e = .returned (.bool false) ∧ Jx (pre ++ [x]) W'))
    (W : World) (hBs : W.cell? ⟨Bs, 0, none⟩ = some (.slice (some ⟨b, 0, none⟩) zs.length cap)) (hc : ∀ j (h : j < zs.length), W.cell? ⟨b, j, none⟩ = some (.int .i64 (val zs[j]))) (h0 : J [] W) :
    CallsIn F n Try.prog 48 #[.func (.yield l) #[] #[], .pointer (some ⟨Bs, 0, none⟩)] W fun e W' => (∃ v, e = .returned v) ∧
      ((∃ ys, ys = cameF zs 0 ∧ J ys W') ∨ (∃ pre : List (Nat × β), True ∧ Jx pre W')) := by
  refine callsIn_of_wp Try.func48 rfl hF ?_ hro
  simp only [Try.ntmps48, List.size_toArray, List.length_cons, List.length_nil, Nat.reduceAdd, Nat.reduceSub, Array.replicate_succ, Array.replicate_zero, List.push_toArray, List.append_toArray, List.nil_append, List.cons_append]
  gi_wp2
  gi_loopw [3] (fun i wr => ∃ m : Nat, m ≤ zs.length ∧ i = .int .i64 ((m : Int) - 1) ∧ J (cameF zs m) wr ∧ KeepTwo b Bs W wr)
    (fun i _ => (intOf i + 1).toNat)
  case atStart => exact ⟨zs.length, Nat.le_refl _, rfl, by rw [cameF_start]; exact h0, KeepTwo.refl _ _ _⟩
  case round =>
    obtain ⟨m, hm, rfl, hJs, hk⟩ := hrel
    have hbox : wr.cell? ⟨Bs, 0, none⟩ = some (.slice (some ⟨b, 0, none⟩) zs.length cap) := (World.cell?_of_block (w := W) hk.2).trans hBs
    rcases m with _ | p
    · have e1 : (((0 : Nat) : Int) - 1) = -1 := rfl
      rw [e1]
      gi_wp2
      go_end0
      exact ⟨⟨_, rfl⟩, .inl ⟨_, rfl, hJs⟩⟩
    · have e1 : (((p + 1 : Nat) : Int) - 1) = (p : Int) := by omega
      rw [e1]
      have hp : p < zs.length := hm
      have hcp : wr.cell? ⟨b, p, none⟩ = some (.int .i64 (val zs[p])) := (World.cell?_of_block (w := W) hk.1).trans (hc p hp)
      obtain ⟨fn, tmps, assign, body, hy, hR⟩ := hY _ (p, zs[p]) wr hJs (by rw [cameF_length]; omega)
      dsimp only at hy
      gi_wp2
      refine hR.mono ?_
      rintro e W3 (⟨rfl, hJ3, hk3⟩ | ⟨rfl, hJx3⟩)
      · gi_wp2
        go_roundw
        case rel => exact ⟨p, by omega, rfl, by rw [← cameF_step hp]; exact hJ3, hk.trans hk3⟩
        case measure => simp [intOf]
      · gi_wp2
        refine bodyPost_ret (results_none rfl _ _ _) rfl ?_
        exact ⟨⟨_, rfl⟩, .inr ⟨_, trivial, hJx3⟩⟩
set_option maxRecDepth 100000 in
set_option maxHeartbeats 1000000 in
/-- .. at the nil slice: no round. -/
theorem back1_nil_in (F : Fence) (n : Nat) (hF : F.fn 48) (hro : F.round = none) {β : Type} (l Bs : Nat) (J : List (Nat × β) → World → Prop) (A : Option Addr) (cap : Nat) (W : World) (hBs : W.cell? ⟨Bs, 0, none⟩ = some (.slice A 0 cap)) (h0 : J [] W) :
    CallsIn F n Try.prog 48 #[.func (.yield l) #[] #[], .pointer (some ⟨Bs, 0, none⟩)] W fun e W' => (∃ v, e = .returned v) ∧ J [] W' := by
  refine callsIn_of_wp Try.func48 rfl hF ?_ hro
  simp only [Try.ntmps48, List.size_toArray, List.length_cons, List.length_nil, Nat.reduceAdd, Nat.reduceSub, Array.replicate_succ, Array.replicate_zero, List.push_toArray, List.append_toArray, List.nil_append, List.cons_append]
  gi_wp2
  gi_loopw [3] (fun i wr => i = .int .i64 (-1) ∧ J [] wr) (fun _ _ => 0)
  case atStart => exact ⟨rfl, h0⟩
  case round =>
    obtain ⟨rfl, hJs⟩ := hrel
    gi_wp2
    go_end0
    exact ⟨⟨_, rfl⟩, hJs⟩
/-- The row of a list of numbers, and the box that holds its slice. -/
theorem back_stops (F : Fence) (n : Nat) (hF : F.fn 48) (hro : F.round = none) (hn : 1 ≤ n) {β : Type} (val : β → Int) (Bs b cap : Nat) (A : Option Addr) (zs : List β) (hreach : zs.length ≤ 1000000) (w : World) (hBs : Bs < w.heap.size) (hb : 0 < zs.length → A = some ⟨b, 0, none⟩ ∧ b < w.heap.size)
    (hc : w.cell? ⟨Bs, 0, none⟩ = some (.slice A zs.length cap)) (hcs : ∀ j (h : j < zs.length), w.cell? ⟨b, j, none⟩ = some (.int .i64 (val zs[j]))) :
    SeqStopsK F n Try.prog 48 #[.pointer (some ⟨Bs, 0, none⟩)] (fun x : Nat × β => #[Value.int .i64 (x.1 : Int), Value.int .i64 (val x.2)]) (KeepTwo b Bs) (fun ys => ys = cameF zs 0) (fun _ => True) zs.length w := fun l J Jx W hW _ _ hY h0 => by
  have hc' := (hW.cell (p := ⟨Bs, 0, none⟩) hBs).trans hc
  rcases Nat.eq_zero_or_pos zs.length with hz | hz
  · obtain rfl : zs = [] := List.eq_nil_of_length_eq_zero hz
    exact (back1_nil_in F n hF hro l Bs J A cap W hc' h0).mono fun e W' ⟨he, hj⟩ => ⟨he, .inl ⟨_, rfl, hj⟩⟩
  · obtain ⟨rfl, hbl⟩ := hb hz
    exact back1_in F n hF hro hn val l Bs b cap zs hreach J Jx hY W hc' (fun j hj => (hW.cell (p := ⟨b, j, none⟩) hbl).trans (hcs j hj)) h0
set_option maxHeartbeats 1000000 in
theorem back_c (A : Option Addr) (len cap : Nat) (w : World) :
    Calls Try.prog 41 #[.slice A len cap] w fun e w' => e = .returned (.func (.func 48) #[] #[.pointer (some ⟨w.heap.size, 0, none⟩)]) ∧ w' = w.alloc (.cells #[.slice A len cap] 24) := by
  go_enter Try.func41, Try.ntmps41
  go_wp2
  go_ret
  exact ⟨rfl, rfl⟩
end Go.Proofs.Ytkgnblnhfjjjmaa
