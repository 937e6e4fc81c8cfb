/- What the walks of layer 5's laws ask of components' functions, and what these then return at valid graphs. -/
import Derived.Test.YtcljmgchghjncaaCpQuot
import Derived.Test.YtcljmgchghjncaaCpFacts
import Derived.Test.YtcljmgchghjncaaRhBase
namespace Go.Proofs.Ytcljmgchghjncaa
open Go Go.RowKit Fl

def IntsRes (w : World) (l : List Int) (k : Int) (e : Ending) (w' : World) : Prop := ∃ A c, e = .returned (.tuple #[.slice A l.length c, .int .i64 k]) ∧ Holds w' A (l.map Iv) ∧ Below w.heap.size w w'
theorem IntsPost.res {w w' : World} {l : List Int} {k : Int} {e : Ending} (h : IntsPost w l k e w') : IntsRes w l k e w' := by
  obtain ⟨u, rfl, ho, hb⟩ := h
  obtain ⟨A, c, rfl, hr⟩ := own_is ho
  exact ⟨A, c, rfl, hr, hb⟩
theorem RowsPost.res {w w' : World} {l : GraphD} {k : Int} {e : Ending} (h : RowsPost w l k e w') : GraphRes w l k e w' := by
  obtain ⟨u, rfl, ho, hb⟩ := h
  obtain ⟨A, c, rfl, hr⟩ := ho.at_
  exact ⟨A, c, rfl, hr, hb⟩
def DevNames : Prop := ∀ (A B : Option Addr) (c d : Nat) (g : GraphD) (s : List Bool) (w : World), RowsAt w A g → Holds w B (s.map Bo) → Sized g →
  Calls Try.prog 10 #[.slice A g.length c, .slice B s.length d] w (IntsRes w (nmL g s) (chkG g s.length))
def DevOrder : Prop := ∀ (A B : Option Addr) (c d : Nat) (g : GraphD) (s : List Bool) (w : World), RowsAt w A g → Holds w B (s.map Bo) → Sized g →
  Calls Try.prog 12 #[.slice A g.length c, .slice B s.length d] w (IntsRes w (ordL g s) (chkG g s.length))
def DevQuot : Prop := ∀ (A B : Option Addr) (c d : Nat) (g : GraphD) (s : List Bool) (w : World), RowsAt w A g → Holds w B (s.map Bo) → Sized g →
  Calls Try.prog 14 #[.slice A g.length c, .slice B s.length d] w (GraphRes w (quoL g s) (chkG g s.length))
theorem names_ok (h : DevNames) {A B : Option Addr} {c d n : Nat} {g : GraphD} {s : List Bool} {W : World} (hr : RowsAt W A g) (hs : Holds W B (s.map Bo)) (hg : validG g = true) (hn : g.length = n) (hsl : s.length = n) :
    Calls Try.prog 10 #[.slice A n c, .slice B n d] W fun e w' => ∃ X cx, e = .returned (.tuple #[.slice X n cx, .int .i64 0]) ∧ Holds w' X ((namesL g s).map Iv) ∧ Below W.heap.size W w' := by
  have h := h A B c d g s W hr hs (Sized.valid hg)
  have h0 := chkG_ok (m := s.length) hg (by omega)
  have h1 : nmL g s = namesL g s := by unfold nmL; rw [if_pos h0]
  rw [h1, h0, hsl, hn] at h
  refine h.mono fun e w' ⟨X, cx, h3, h4⟩ => ⟨X, cx, ?_, h4⟩
  rw [h3, namesL_length, hn]
theorem order_ok5 (h : DevOrder) {A B : Option Addr} {c d n : Nat} {g : GraphD} {s : List Bool} {W : World} (hr : RowsAt W A g) (hs : Holds W B (s.map Bo)) (hg : validG g = true) (hn : g.length = n) (hsl : s.length = n) :
    Calls Try.prog 12 #[.slice A n c, .slice B n d] W fun e w' => ∃ X cx, e = .returned (.tuple #[.slice X (orderL g s).length cx, .int .i64 0]) ∧ Holds w' X ((orderL g s).map Iv) ∧ Below W.heap.size W w' := by
  have h := h A B c d g s W hr hs (Sized.valid hg)
  have h0 := chkG_ok (m := s.length) hg (by omega)
  have h1 : ordL g s = orderL g s := by unfold ordL; rw [if_pos h0]
  rw [h1, h0, hsl, hn] at h
  exact h
theorem quot_ok5 (h : DevQuot) {A B : Option Addr} {c d n : Nat} {g : GraphD} {s : List Bool} {W : World} (hr : RowsAt W A g) (hs : Holds W B (s.map Bo)) (hg : validG g = true) (hn : g.length = n) (hsl : s.length = n) :
    Calls Try.prog 14 #[.slice A n c, .slice B n d] W fun e w' => ∃ X cx, e = .returned (.tuple #[.slice X n cx, .int .i64 0]) ∧ RowsAt w' X (quotL g s) ∧ Below W.heap.size W w' := by
  have h := h A B c d g s W hr hs (Sized.valid hg)
  have h0 := chkG_ok (m := s.length) hg (by omega)
  have h1 : quoL g s = quotL g s := by unfold quoL; rw [if_pos h0]
  rw [h1, h0, hsl, hn] at h
  refine h.mono fun e w' ⟨X, cx, h3, h4⟩ => ⟨X, cx, ?_, h4⟩
  rw [h3, quotL_length, hn]
/-! ### The example -/
theorem holds_blk {w : World} {n : Nat} {cs : Array Value} {e : TypeId} {fr : Nat × Nat} {l : List Value} (h : w.heap[n]? = some (.cells cs e fr)) (hl : cs.toList = l) : Holds w (some ⟨n, 0, none⟩) l := by
  subst hl
  exact .inr ⟨n, 0, rfl, block_lt h, fun j hj => by
    rw [cell_of_row w n _ cs e fr h]
    simp at hj
    simp [hj]⟩
theorem alloc4h (w : World) (o1 o2 o3 o4 : Obj) : ((((w.alloc o1).alloc o2).alloc o3).alloc o4).heap[w.heap.size]? = some o1 ∧ ((((w.alloc o1).alloc o2).alloc o3).alloc o4).heap[w.heap.size + 1]? = some o2 ∧ ((((w.alloc o1).alloc o2).alloc o3).alloc o4).heap[w.heap.size + 1 + 1]? = some o3 ∧ ((((w.alloc o1).alloc o2).alloc o3).alloc o4).heap[w.heap.size + 1 + 1 + 1]? = some o4 := by
  have e : ((((w.alloc o1).alloc o2).alloc o3).alloc o4).heap = (((w.heap.push o1).push o2).push o3).push o4 := rfl
  rw [e]
  refine ⟨?_, ?_, ?_, ?_⟩ <;> simp only [Array.getElem?_push, Array.size_push]
  · rw [if_neg (by omega), if_neg (by omega), if_neg (by omega), if_pos trivial]
  · rw [if_neg (by omega), if_neg (by omega), if_pos trivial]
  · rw [if_neg (by omega), if_pos trivial]
  · rw [if_pos trivial]
/-- Three rows of numbers, as literals lay them. -/
theorem rows3 (w : World) (n : Nat) (c1 c2 c3 : Array Value) (r1 r2 r3 : List Int) (k1 k2 k3 : Nat) (e1 e2 e3 e4 : TypeId) (h1 : c1.toList = r1.map Iv) (h2 : c2.toList = r2.map Iv) (h3 : c3.toList = r3.map Iv) (hn : n = w.heap.size) (l1 : k1 = r1.length) (l2 : k2 = r2.length) (l3 : k3 = r3.length) :
    RowsAt ((((w.alloc (.cells c1 e1)).alloc (.cells c2 e2)).alloc (.cells c3 e3)).alloc (.cells #[.slice (some ⟨n, 0, none⟩) k1 k1, .slice (some ⟨n + 1, 0, none⟩) k2 k2, .slice (some ⟨n + 1 + 1, 0, none⟩) k3 k3] e4)) (some ⟨n + 1 + 1 + 1, 0, none⟩) [r1, r2, r3] := by
  subst hn l1 l2 l3
  obtain ⟨b1, b2, b3, b4⟩ := alloc4h w (.cells c1 e1) (.cells c2 e2) (.cells c3 e3) (.cells #[.slice (some ⟨w.heap.size, 0, none⟩) r1.length r1.length, .slice (some ⟨w.heap.size + 1, 0, none⟩) r2.length r2.length, .slice (some ⟨w.heap.size + 1 + 1, 0, none⟩) r3.length r3.length] e4)
  generalize ((((w.alloc (.cells c1 e1)).alloc (.cells c2 e2)).alloc (.cells c3 e3)).alloc (.cells #[.slice (some ⟨w.heap.size, 0, none⟩) r1.length r1.length, .slice (some ⟨w.heap.size + 1, 0, none⟩) r2.length r2.length, .slice (some ⟨w.heap.size + 1 + 1, 0, none⟩) r3.length r3.length] e4)) = W at b1 b2 b3 b4 ⊢
  refine .inr ⟨w.heap.size + 1 + 1 + 1, 0, rfl, block_lt b4, fun k hk => ?_⟩
  have hk3 : k < 3 := hk
  match k, hk3 with
  | 0, _ => exact ⟨_, r1.length, by rw [cell_of_row W _ _ _ e4 _ b4]; rfl, holds_blk b1 h1⟩
  | 1, _ => exact ⟨_, r2.length, by rw [cell_of_row W _ _ _ e4 _ b4]; rfl, holds_blk b2 h2⟩
  | 2, _ => exact ⟨_, r3.length, by rw [cell_of_row W _ _ _ e4 _ b4]; rfl, holds_blk b3 h3⟩
theorem lit_holds (w : World) (n : Nat) (cs : Array Value) (e : TypeId) (l : List Value) (hn : n = w.heap.size) (hl : cs.toList = l) : Holds (w.alloc (.cells cs e)) (some ⟨n, 0, none⟩) l := by
  subst hn
  exact holds_blk (heap_alloc_new w _) hl
theorem below_alloc (w : World) (ob : Obj) : Below w.heap.size w (w.alloc ob) := (Below.refl _ _).alloc (Nat.le_refl _) _
theorem below_alloc4 (w : World) (o1 o2 o3 o4 : Obj) : Below w.heap.size w ((((w.alloc o1).alloc o2).alloc o3).alloc o4) := ((((Below.refl _ _).alloc (Nat.le_refl _) _).alloc (by simp) _).alloc (by simp; omega) _).alloc (by simp; omega) _
set_option maxRecDepth 100000 in
set_option maxHeartbeats 4000000 in
theorem known5_c (hN : DevNames) (hO : DevOrder) (hQ : DevQuot) (w : World) : Calls Try.prog 7 #[] w fun e w' => e = .returned (.bool true) ∧ Below w.heap.size w w' := by
  have CN := Lib.hid (fun (A B : Option Addr) (c d : Nat) (W : World) hr hs => names_ok hN (A := A) (B := B) (c := c) (d := d) (n := 3) (g := eG) (s := eS) (W := W) hr hs eG_valid rfl rfl)
  have CO := Lib.hid (fun (A B : Option Addr) (c d : Nat) (W : World) hr hs => order_ok5 hO (A := A) (B := B) (c := c) (d := d) (n := 3) (g := eG) (s := eS) (W := W) hr hs eG_valid rfl rfl)
  have CQ := Lib.hid (fun (A B : Option Addr) (c d : Nat) (W : World) hr hs => quot_ok5 hQ (A := A) (B := B) (c := c) (d := d) (n := 3) (g := eG) (s := eS) (W := W) hr hs eG_valid rfl rfl)
  rw [e_names] at CN
  rw [e_order, show ([0, 2] : List Int).length = 2 from rfl] at CO
  rw [e_quot] at CQ
  clear hN hO hQ
  go_enter Try.func7, Try.ntmps7
  go_wp2_with fail
  have HR1 := Lib.hid (rows3 w w.heap.size #[.int .i64 1] #[.int .i64 0, .int .i64 2] #[] [1] [0, 2] [] 1 2 0 3 3 3 24 rfl rfl rfl rfl rfl rfl rfl)
  have HW1 := Lib.hid (below_alloc4 w (.cells #[.int .i64 1] 3) (.cells #[.int .i64 0, .int .i64 2] 3) (.cells #[] 3) (.cells #[.slice (some ⟨w.heap.size, 0, none⟩) 1 1, .slice (some ⟨w.heap.size + 1, 0, none⟩) 2 2, .slice (some ⟨w.heap.size + 1 + 1, 0, none⟩) 0 0] 24))
  have HK1 := Lib.hid (fun (ob : Obj) => HR1.out.keep (below_alloc _ ob))
  have HW2 := Lib.hid (fun (ob : Obj) => HW1.out.trans ((below_alloc _ ob).mono HW1.out.size))
  refine (CN.out (some ⟨w.heap.size + 1 + 1 + 1, 0, none⟩) (some ⟨w.heap.size + 1 + 1 + 1 + 1, 0, none⟩) 3 3 _ (HK1.out _) (lit_holds _ _ #[.bool false, .bool false, .bool false] _ _ (by simp) rfl)).mono ?_
  rintro e w2 ⟨X1, c1, rfl, h1, hb1⟩
  have HM2 := Lib.hid ((lit_holds ((((w.alloc (.cells #[.int .i64 1] 3)).alloc (.cells #[.int .i64 0, .int .i64 2] 3)).alloc (.cells #[] 3)).alloc (.cells #[.slice (some ⟨w.heap.size, 0, none⟩) 1 1, .slice (some ⟨w.heap.size + 1, 0, none⟩) 2 2, .slice (some ⟨w.heap.size + 1 + 1, 0, none⟩) 0 0] 24)) (w.heap.size + 1 + 1 + 1 + 1) #[.bool false, .bool false, .bool false] 4 (eS.map Bo) (by simp) rfl).keep hb1)
  have HR2 := Lib.hid ((HK1.out _).keep hb1)
  have HB2 := Lib.hid ((HW2.out _).trans (hb1.mono (HW2.out _).size))
  have HX2 := Lib.hid h1
  clear h1 hb1 HR1 HW1 HK1 HW2 CN
  go_wp2_with fail
  refine (CO.out _ _ 3 3 _ HR2.out HM2.out).mono ?_
  rintro e w3 ⟨X2, c2, rfl, h2, hb2⟩
  have HM3 := Lib.hid (HM2.out.keep hb2)
  have HR3 := Lib.hid (HR2.out.keep hb2)
  have HB3 := Lib.hid (HB2.out.trans (hb2.mono HB2.out.size))
  have HX3 := Lib.hid (HX2.out.keep hb2)
  have HY3 := Lib.hid h2
  clear h2 hb2 HM2 HR2 HB2 HX2 CO
  go_wp2_with fail
  refine (CQ.out _ _ 3 3 _ HR3.out HM3.out).mono ?_
  rintro e w4 ⟨X3, c3, rfl, h3, hb3⟩
  have HB4 := Lib.hid (HB3.out.trans (hb3.mono HB3.out.size))
  have HX4 := Lib.hid (HX3.out.keep hb3)
  have HY4 := Lib.hid (HY3.out.keep hb3)
  have HZ4 := Lib.hid h3
  clear h3 hb3 HM3 HR3 HB3 HX3 HY3 CQ
  go_wp2_with fail
  refine (sameIntsE_c X1 (some ⟨w4.heap.size, 0, none⟩) c1 3 [0, 0, 2] _ (HX4.out.keep (below_alloc _ _)) (lit_holds _ _ #[.int .i64 0, .int .i64 0, .int .i64 2] _ _ rfl rfl) (by decide)).mono ?_
  rintro e w5 ⟨rfl, n5, rfl⟩
  have hb5 := below_drewN (below_alloc w4 (.cells #[.int .i64 0, .int .i64 0, .int .i64 2] 3)) n5
  have HB5 := Lib.hid (HB4.out.trans (hb5.mono HB4.out.size))
  have HY5 := Lib.hid (HY4.out.keep hb5)
  have HZ5 := Lib.hid (HZ4.out.keep hb5)
  clear hb5 HB4 HX4 HY4 HZ4
  generalize (w4.alloc (.cells #[.int .i64 0, .int .i64 0, .int .i64 2] 3)).drewN n5 = w5 at *
  go_wp2_with fail
  refine (sameIntsE_c X2 (some ⟨w5.heap.size, 0, none⟩) c2 2 [0, 2] _ (HY5.out.keep (below_alloc _ _)) (lit_holds _ _ #[.int .i64 0, .int .i64 2] _ _ rfl rfl) (by decide)).mono ?_
  rintro e w6 ⟨rfl, n6, rfl⟩
  have hb6 := below_drewN (below_alloc w5 (.cells #[.int .i64 0, .int .i64 2] 3)) n6
  have HB6 := Lib.hid (HB5.out.trans (hb6.mono HB5.out.size))
  have HZ6 := Lib.hid (HZ5.out.keep hb6)
  clear hb6 HB5 HY5 HZ5
  generalize (w5.alloc (.cells #[.int .i64 0, .int .i64 2] 3)).drewN n6 = w6 at *
  go_wp2_with fail
  have hb7 := below_alloc4 w6 (.cells #[.int .i64 2] 3) (.cells #[] 3) (.cells #[] 3) (.cells #[.slice (some ⟨w6.heap.size, 0, none⟩) 1 1, .slice (some ⟨w6.heap.size + 1, 0, none⟩) 0 0, .slice (some ⟨w6.heap.size + 1 + 1, 0, none⟩) 0 0] 24)
  refine (sameListsE_c X3 (some ⟨w6.heap.size + 1 + 1 + 1, 0, none⟩) c3 3 [[2], [], []] _ (HZ6.out.keep hb7) (rows3 w6 w6.heap.size #[.int .i64 2] #[] #[] [2] [] [] 1 0 0 _ _ _ _ rfl rfl rfl rfl rfl rfl rfl) (by decide) (by decide)).mono ?_
  rintro e w7 ⟨rfl, n7, rfl⟩
  have HB7 := Lib.hid (HB6.out.trans ((below_drewN hb7 n7).mono HB6.out.size))
  clear hb7 HB6 HZ6
  go_wp2
  go_ret
  exact ⟨rfl, HB7.out⟩
end Go.Proofs.Ytcljmgchghjncaa
