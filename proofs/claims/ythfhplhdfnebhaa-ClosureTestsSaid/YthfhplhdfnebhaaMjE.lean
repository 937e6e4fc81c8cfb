/- Joined texts. -/
import Derived.Test.YthfhplhdfnebhaaMjD
import Derived.Test.YthfhplhdfnebhaaNmAt
import Derived.Test.YthfhplhdfnebhaaNtFleet
namespace Go.Proofs.Ythfhplhdfnebhaa
open Go Go.RowKit Fl

abbrev lineN : NetD := ⟨[⟨[97], 0, 0⟩, ⟨[98], 0, 0⟩, ⟨[99], 0, 0⟩], [[1], [0, 2], [1]], [⟨[100], true, 0, 0, 1, 3⟩, ⟨[101], true, 2, 2, 2, 4⟩], [], 1, 0, 0, 1⟩
theorem lineN_ok : NetOk lineN := by
  refine ⟨by decide, by decide, by decide, by decide, by decide, by decide, by decide, by decide, by decide, by decide, ⟨by decide, by decide, by decide, by decide⟩, ?_, ?_, by simp, by simp, ⟨_, List.mem_cons_self, rfl⟩⟩
  · intro s hs
    simp only [List.mem_cons, List.not_mem_nil, or_false] at hs
    rcases hs with rfl | rfl
    · exact ⟨by decide, by decide, by decide⟩
    · exact ⟨by decide, by decide, by decide⟩
  · intro k hk
    match k, hk with
    | 0, _ => rfl
    | 1, _ => rfl
theorem lineN_cells : cellsN lineN = 6 := by decide
theorem line_slots : slotS lineN [false, false, false, false, false, false] = 3 := by decide
theorem line_s0 : slotS lineN [true, false, false, false, false, false] = 2 := by decide
theorem line_s2 : slotS lineN [false, false, true, false, false, false] = 1 := by decide
theorem alloc_at {W : World} {o : Obj} {k : Nat} (h : k = W.heap.size) : (W.alloc o).heap[k]? = some o := by
  subst h
  exact heap_alloc_new W o
theorem alloc7 (w : World) (o0 o1 o2 o3 o4 o5 o6 : Obj) : (((((((w.alloc o0).alloc o1).alloc o2).alloc o3).alloc o4).alloc o5).alloc o6).heap[w.heap.size]? = some o0 ∧ (((((((w.alloc o0).alloc o1).alloc o2).alloc o3).alloc o4).alloc o5).alloc o6).heap[w.heap.size + 1]? = some o1 ∧ (((((((w.alloc o0).alloc o1).alloc o2).alloc o3).alloc o4).alloc o5).alloc o6).heap[w.heap.size + 1 + 1]? = some o2 ∧ (((((((w.alloc o0).alloc o1).alloc o2).alloc o3).alloc o4).alloc o5).alloc o6).heap[w.heap.size + 1 + 1 + 1]? = some o3 ∧ (((((((w.alloc o0).alloc o1).alloc o2).alloc o3).alloc o4).alloc o5).alloc o6).heap[w.heap.size + 1 + 1 + 1 + 1]? = some o4 ∧ (((((((w.alloc o0).alloc o1).alloc o2).alloc o3).alloc o4).alloc o5).alloc o6).heap[w.heap.size + 1 + 1 + 1 + 1 + 1]? = some o5 ∧ (((((((w.alloc o0).alloc o1).alloc o2).alloc o3).alloc o4).alloc o5).alloc o6).heap[w.heap.size + 1 + 1 + 1 + 1 + 1 + 1]? = some o6 ∧ Below w.heap.size w (((((((w.alloc o0).alloc o1).alloc o2).alloc o3).alloc o4).alloc o5).alloc o6) := by
  refine ⟨?_, ?_, ?_, ?_, ?_, ?_, ?_, ?_⟩
  · exact (Below.heap_alloc _ _ _ (by simp; try omega)).trans ((Below.heap_alloc _ _ _ (by simp; try omega)).trans ((Below.heap_alloc _ _ _ (by simp; try omega)).trans ((Below.heap_alloc _ _ _ (by simp; try omega)).trans ((Below.heap_alloc _ _ _ (by simp; try omega)).trans ((Below.heap_alloc _ _ _ (by simp; try omega)).trans (alloc_at rfl))))))
  · exact (Below.heap_alloc _ _ _ (by simp; try omega)).trans ((Below.heap_alloc _ _ _ (by simp; try omega)).trans ((Below.heap_alloc _ _ _ (by simp; try omega)).trans ((Below.heap_alloc _ _ _ (by simp; try omega)).trans ((Below.heap_alloc _ _ _ (by simp; try omega)).trans (alloc_at (by simp))))))
  · exact (Below.heap_alloc _ _ _ (by simp; try omega)).trans ((Below.heap_alloc _ _ _ (by simp; try omega)).trans ((Below.heap_alloc _ _ _ (by simp; try omega)).trans ((Below.heap_alloc _ _ _ (by simp; try omega)).trans (alloc_at (by simp)))))
  · exact (Below.heap_alloc _ _ _ (by simp; try omega)).trans ((Below.heap_alloc _ _ _ (by simp; try omega)).trans ((Below.heap_alloc _ _ _ (by simp; try omega)).trans (alloc_at (by simp))))
  · exact (Below.heap_alloc _ _ _ (by simp; try omega)).trans ((Below.heap_alloc _ _ _ (by simp; try omega)).trans (alloc_at (by simp)))
  · exact (Below.heap_alloc _ _ _ (by simp; try omega)).trans (alloc_at (by simp))
  · exact alloc_at (by simp)
  · exact (((((((Below.refl _ _).alloc (Nat.le_refl _) _).alloc (by simp) _).alloc (by simp; try omega) _).alloc (by simp; try omega) _).alloc (by simp; try omega) _).alloc (by simp; try omega) _).alloc (by simp; try omega) _
theorem rowsAt_lit3 {w : World} {b b0 b1 b2 : Nat} {l0 l1 l2 : List Int} (h : w.heap[b]? = some (.cells #[.slice (some ⟨b0, 0, none⟩) l0.length l0.length, .slice (some ⟨b1, 0, none⟩) l1.length l1.length, .slice (some ⟨b2, 0, none⟩) l2.length l2.length] 25 (0, 0)))
    (h0 : w.heap[b0]? = some (.cells (l0.map Iv).toArray 3 (0, 0))) (h1 : w.heap[b1]? = some (.cells (l1.map Iv).toArray 3 (0, 0))) (h2 : w.heap[b2]? = some (.cells (l2.map Iv).toArray 3 (0, 0))) : RowsAt w (some ⟨b, 0, none⟩) [l0, l1, l2] := by
  refine .inr ⟨b, 0, rfl, block_lt h, fun k hk => ?_⟩
  match k, hk with
  | 0, _ => exact ⟨_, _, by rw [cell_of_row w b _ _ _ _ h]; rfl, holds_row h0 rfl⟩
  | 1, _ => exact ⟨_, _, by rw [cell_of_row w b _ _ _ _ h]; rfl, holds_row h1 rfl⟩
  | 2, _ => exact ⟨_, _, by rw [cell_of_row w b _ _ _ _ h]; rfl, holds_row h2 rfl⟩
set_option maxRecDepth 100000 in
set_option maxHeartbeats 4000000 in
theorem line_c (w : World) : Calls Try.prog 15 #[] w fun e w' => ∃ (Ab An As : Option Addr), e = .returned (.agg #[.slice Ab 3 3, .slice An 3 3, .slice As 2 2, .slice none 0 0, Iv 1, Iv 0, Iv 0, Iv 1]) ∧ (∀ W' : World, (∀ k, w.heap.size ≤ k → k < w'.heap.size → W'.heap[k]? = w'.heap[k]?) → NetAt W' Ab An As none lineN) ∧ Below w.heap.size w w' := by
  go_enter Try.func15, Try.ntmps15
  go_wp2
  obtain ⟨e0, e1, e2, e3, e4, e5, e6, hb⟩ := alloc7 w (.cells #[.slice (some ⟨w.heap.size + 1, 0, none⟩) 3 3, .slice (some ⟨w.heap.size + 1 + 1 + 1 + 1 + 1, 0, none⟩) 3 3, .slice (some ⟨w.heap.size + 1 + 1 + 1 + 1 + 1 + 1, 0, none⟩) 2 2, .slice none 0 0, .int .i64 1, .int .i64 0, .int .i64 0, .int .i64 1] 29) (.cells #[Sv [97], Iv 0, Iv 0, Sv [98], Iv 0, Iv 0, Sv [99], Iv 0, Iv 0] 59) (.cells #[Iv 1] 3) (.cells #[Iv 0, Iv 2] 3) (.cells #[Iv 1] 3) (.cells #[.slice (some ⟨w.heap.size + 1 + 1, 0, none⟩) 1 1, .slice (some ⟨w.heap.size + 1 + 1 + 1, 0, none⟩) 2 2, .slice (some ⟨w.heap.size + 1 + 1 + 1 + 1, 0, none⟩) 1 1] 25) (.cells #[Sv [100], Bo true, Iv 0, Iv 0, Iv 1, Iv 3, Sv [101], Bo true, Iv 2, Iv 2, Iv 2, Iv 4] 49)
  refine bodyPost_ret (results_cell_row rfl _ _ w.heap.size 29 _ (0, 0) _ rfl e0 Try.underlying29 rfl (by kernel_rfl)) rfl ?_
  refine ⟨_, _, _, rfl, fun W' hW => ?_, hb⟩
  have t1 := (hW _ (by omega) (block_lt e1)).trans e1
  have t2 := (hW _ (by omega) (block_lt e2)).trans e2
  have t3 := (hW _ (by omega) (block_lt e3)).trans e3
  have t4 := (hW _ (by omega) (block_lt e4)).trans e4
  have t5 := (hW _ (by omega) (block_lt e5)).trans e5
  have t6 := (hW _ (by omega) (block_lt e6)).trans e6
  exact ⟨holds_row t1 rfl, rowsAt_lit3 t5 t2 t3 t4, holds_row t6 rfl, .inl rfl⟩
end Go.Proofs.Ythfhplhdfnebhaa
namespace Go.Proofs.Ythfhplhdfnebhaa
open Go Go.RowKit Fl

abbrev z6 : List Bool := [false, false, false, false, false, false]
abbrev lineCells (Ab An As : Option Addr) : Array Value := #[.slice Ab 3 3, .slice An 3 3, .slice As 2 2, .slice none 0 0, Iv 1, Iv 0, Iv 0, Iv 1]
abbrev netZ : Array Value := #[.slice none 0 0, .slice none 0 0, .slice none 0 0, .slice none 0 0, .int .i64 0, .int .i64 0, .int .i64 0, .int .i64 0]
abbrev netZO : Obj := .cells netZ 29 (0, 0)
abbrev mk6 : Obj := .cells (madeCells #[.bool false] 6) 4
/-- What the walk keeps of the example: its box, its row, its lists. -/
def K10 (w wx : World) (X G : Nat) (Ab An As : Option Addr) : Prop := w.heap.size ≤ X ∧ wx.heap[X]? = some (.cells (lineCells Ab An As) 29 (0, 0)) ∧ wx.heap[G]? = some (.cells (z6.map Bo).toArray 4 (0, 0)) ∧ NetAt wx Ab An As none lineN ∧ Below w.heap.size w wx
theorem mk6_row {W : World} {G : Nat} (h : W.heap[G]? = some mk6) : W.heap[G]? = some (.cells (z6.map Bo).toArray 4 (0, 0)) := by
  rw [h]
  have e : madeCells #[(.bool false : Value)] 6 = (z6.map Bo).toArray := by
    apply Array.toList_inj.1
    rw [made_bools]
    rfl
  rw [← e]
abbrev LineN (W w2 : World) (Ab An As : Option Addr) : Prop := ∀ W' : World, (∀ k, W.heap.size ≤ k → k < w2.heap.size → W'.heap[k]? = w2.heap[k]?) → NetAt W' Ab An As none lineN
abbrev setL (W : World) (X : Nat) (Ab An As : Option Addr) : World := ((((((((W.setCell ⟨X, 0, none⟩ (.slice Ab 3 3)).setCell ⟨X, 1, none⟩ (.slice An 3 3)).setCell ⟨X, 2, none⟩ (.slice As 2 2)).setCell ⟨X, 3, none⟩ (.slice none 0 0)).setCell ⟨X, 4, none⟩ (Iv 1)).setCell ⟨X, 5, none⟩ (Iv 0)).setCell ⟨X, 6, none⟩ (Iv 0)).setCell ⟨X, 7, none⟩ (Iv 1))
theorem set8_below {B : Nat} {a W : World} {X : Nat} {Ab An As : Option Addr} (h : Below B a W) (hg : B ≤ X) : Below B a (setL W X Ab An As) :=
  below_put (below_put (below_put (below_put (below_put (below_put (below_put (below_put h hg) hg) hg) hg) hg) hg) hg) hg
theorem set8_other {W : World} {X k : Nat} {Ab An As : Option Addr} (h : k ≠ X) : (setL W X Ab An As).heap[k]? = W.heap[k]? := by
  simp only [setL]
  repeat rw [Below.heap_setCell _ _ _ _ h]
theorem k_set {w wx : World} {X G : Nat} {Ab An As : Option Addr} (hX : wx.heap[X]? = some netZO) (hG : wx.heap[G]? = some mk6) (hXG : X ≠ G) (hw : w.heap.size ≤ X) (hN : ∀ W' : World, (∀ k, k ≠ X → W'.heap[k]? = wx.heap[k]?) → NetAt W' Ab An As none lineN) (hB : Below w.heap.size w wx) : K10 w (setL wx X Ab An As) X G Ab An As :=
  ⟨hw, set8_at hX, (set8_other (fun h => hXG h.symm)).trans (mk6_row hG), hN _ (fun _ hk => set8_other hk), set8_below hB hw⟩
theorem row8z {w : World} {X : Nat} (h : w.heap[X]? = some netZO) : w.cell? ⟨X, 0, none⟩ = some (.slice none 0 0) ∧ w.cell? ⟨X, 1, none⟩ = some (.slice none 0 0) ∧ w.cell? ⟨X, 2, none⟩ = some (.slice none 0 0) ∧ w.cell? ⟨X, 3, none⟩ = some (.slice none 0 0) ∧ w.cell? ⟨X, 4, none⟩ = some (.int .i64 0) ∧ w.cell? ⟨X, 5, none⟩ = some (.int .i64 0) ∧ w.cell? ⟨X, 6, none⟩ = some (.int .i64 0) ∧ w.cell? ⟨X, 7, none⟩ = some (.int .i64 0) ∧ ∀ i, w.frozen? ⟨X, i, none⟩ = false := by
  obtain ⟨a0, a1, a2, a3, a4, a5, a6, a7, e, c0, c1, c2, c3, c4, c5, c6, c7, f⟩ := row8_c h rfl
  injection e with e
  simp only [List.cons.injEq, and_true] at e
  obtain ⟨rfl, rfl, rfl, rfl, rfl, rfl, rfl, rfl⟩ := e
  exact ⟨c0, c1, c2, c3, c4, c5, c6, c7, f⟩
theorem row8l {w : World} {X : Nat} {Ab An As : Option Addr} (h : w.heap[X]? = some (.cells (lineCells Ab An As) 29 (0, 0))) : w.cell? ⟨X, 0, none⟩ = some (.slice Ab 3 3) ∧ w.cell? ⟨X, 1, none⟩ = some (.slice An 3 3) ∧ w.cell? ⟨X, 2, none⟩ = some (.slice As 2 2) ∧ w.cell? ⟨X, 3, none⟩ = some (.slice none 0 0) ∧ w.cell? ⟨X, 4, none⟩ = some (Iv 1) ∧ w.cell? ⟨X, 5, none⟩ = some (Iv 0) ∧ w.cell? ⟨X, 6, none⟩ = some (Iv 0) ∧ w.cell? ⟨X, 7, none⟩ = some (Iv 1) := by
  obtain ⟨a0, a1, a2, a3, a4, a5, a6, a7, e, c0, c1, c2, c3, c4, c5, c6, c7, f⟩ := row8_c h rfl
  injection e with e
  simp only [List.cons.injEq, and_true] at e
  obtain ⟨rfl, rfl, rfl, rfl, rfl, rfl, rfl, rfl⟩ := e
  exact ⟨c0, c1, c2, c3, c4, c5, c6, c7⟩
abbrev lG : GraphD := [[1], [0, 2], [1]]
theorem lE {u v : Nat} (h : EdgeG lG u v) : (u = 0 ∧ v = 1) ∨ (u = 1 ∧ v = 0) ∨ (u = 1 ∧ v = 2) ∨ (u = 2 ∧ v = 1) := by
  have hr := h.range (show validG lG = true by decide)
  have h1 : u < 3 := hr.1
  have h2 : v < 3 := hr.2.1
  unfold EdgeG rowG at h
  match u, v, h1, h2 with
  | 0, 0, _, _ => simp at h
  | 0, 1, _, _ => simp
  | 0, 2, _, _ => simp at h
  | 1, 0, _, _ => simp
  | 1, 1, _, _ => simp at h
  | 1, 2, _, _ => simp
  | 2, 0, _, _ => simp at h
  | 2, 1, _, _ => simp
  | 2, 2, _, _ => simp at h
  | (n + 3), _, h, _ => omega
  | _, (n + 3), _, h => omega
theorem lM1 : mutB lG [true, false, false] = true := by
  refine (mutB_iff _ _).2 ⟨by decide, ⟨1, by decide, rfl⟩, ?_⟩
  have r1 : PathG lG [true, false, false] 1 1 := .refl (by decide) rfl
  have r2 : PathG lG [true, false, false] 2 2 := .refl (by decide) rfl
  have e1 : PathG lG [true, false, false] 1 2 := .head (by decide) rfl (by unfold EdgeG rowG; simp) r2
  have e2 : PathG lG [true, false, false] 2 1 := .head (by decide) rfl (by unfold EdgeG rowG; simp) r1
  intro u v hu hv hsu hsv
  have h1 : u < 3 := hu
  have h2 : v < 3 := hv
  match u, v, h1, h2, hsu, hsv with
  | 0, _, _, _, h, _ => cases h
  | _, 0, _, _, _, h => cases h
  | 1, 1, _, _, _, _ => exact r1
  | 1, 2, _, _, _, _ => exact e1
  | 2, 1, _, _, _, _ => exact e2
  | 2, 2, _, _, _, _ => exact r2
  | (n + 3), _, h, _, _, _ => omega
  | _, (n + 3), _, h, _, _ => omega
theorem lNo : ¬ PathG lG [false, true, false] 0 2 := fun h => by
  have := PathG.closed (P := fun v => v = 0) rfl (fun a b ha e hb hs => by
    rcases lE e with ⟨_, rfl⟩ | ⟨rfl, _⟩ | ⟨rfl, _⟩ | ⟨rfl, _⟩
    · cases hs
    · cases ha
    · cases ha
    · cases ha) h
  cases this
theorem lM2 : mutB lG [false, true, false] = false := mutB_no fun h => lNo (h.2.2 0 2 (by decide) (by decide) rfl rfl)
theorem may0 : mayB lineN z6 0 2 = true := by
  have e : allN lineN (z6.set 0 true) = true := lM1
  have f : slotS lineN (z6.set 0 true) = 2 := line_s0
  unfold mayB carB
  rw [e, f]
  rfl
theorem may1 : mayB lineN z6 1 1 = false := by
  have e : allN lineN (z6.set 1 true) = false := lM2
  unfold mayB carB
  rw [e]
  rfl
theorem may2 : mayB lineN z6 2 2 = false := by
  have f : slotS lineN (z6.set 2 true) = 1 := line_s2
  unfold mayB carB
  rw [f]
  simp
abbrev bx (Ab An As : Option Addr) : Obj := .cells (lineCells Ab An As) 29 (0, 0)
theorem drew_below {w w2 : World} (hB : Below w.drew.heap.size w.drew w2) : Below w.heap.size w w2 := ((Below.refl _ _).drew).trans hB
theorem k1 {w w2 : World} {Ab An As : Option Addr} (hN : LineN w.drew w2 Ab An As) (hB : Below w.drew.heap.size w.drew w2) : K10 w ((w2.alloc mk6).alloc (bx Ab An As)) (w2.heap.size + 1) w2.heap.size Ab An As := by
  have hb := drew_below hB
  have hz := hb.size
  exact ⟨by omega, alloc_at (by simp), mk6_row ((heap_alloc_old _ _ (by simp)).trans (alloc_at rfl)), hN _ (fun k _ h => (heap_alloc_old _ _ (by simp; omega)).trans (heap_alloc_old _ _ h)), (hb.alloc hz _).alloc (by simp; omega) _⟩
theorem k2 {w w2 : World} {Ab An As : Option Addr} (hN : LineN ((w.alloc mk6).drew) w2 Ab An As) (hB : Below ((w.alloc mk6).drew).heap.size ((w.alloc mk6).drew) w2) : K10 w (w2.alloc (bx Ab An As)) w2.heap.size w.heap.size Ab An As := by
  have h1 : w.heap.size + 1 ≤ w2.heap.size := by have := hB.size; simpa using this
  have hb : Below w.heap.size w w2 := (((Below.refl _ _).alloc (Nat.le_refl _) _).drew).trans (hB.mono (by simp))
  exact ⟨by omega, alloc_at rfl, mk6_row ((heap_alloc_old _ _ (by omega)).trans ((hB.block _ (by simp)).trans (alloc_at rfl))), hN _ (fun k _ h => heap_alloc_old _ _ h), hb.alloc hb.size _⟩
theorem k3 {w w2 : World} {Ab An As : Option Addr} (hN : LineN w.drew w2 Ab An As) (hB : Below w.drew.heap.size w.drew w2) : K10 w (setL ((w2.alloc netZO).alloc mk6) w2.heap.size Ab An As) w2.heap.size (w2.heap.size + 1) Ab An As := by
  have hb := drew_below hB
  have hz := hb.size
  exact k_set ((heap_alloc_old _ _ (by simp)).trans (alloc_at rfl)) (alloc_at (by simp)) (by omega) hz (fun W' hW => hN W' (fun k _ h => (hW k (by omega)).trans ((heap_alloc_old _ _ (by simp; omega)).trans (heap_alloc_old _ _ h)))) ((hb.alloc hz _).alloc (by simp; omega) _)
theorem k3' {w w2 : World} {Ab An As : Option Addr} (hN : LineN w.drew w2 Ab An As) (hB : Below w.drew.heap.size w.drew w2) : K10 w ((w2.alloc (bx Ab An As)).alloc mk6) w2.heap.size (w2.heap.size + 1) Ab An As := by
  have hb := drew_below hB
  have hz := hb.size
  exact ⟨hz, (heap_alloc_old _ _ (by simp)).trans (alloc_at rfl), mk6_row (alloc_at (by simp)), hN _ (fun k _ h => (heap_alloc_old _ _ (by simp; omega)).trans (heap_alloc_old _ _ h)), (hb.alloc hz _).alloc (by simp; omega) _⟩
theorem k4 {w w2 : World} {Ab An As : Option Addr} (hN : LineN (w.alloc netZO).drew w2 Ab An As) (hB : Below (w.alloc netZO).drew.heap.size (w.alloc netZO).drew w2) : K10 w (setL (w2.alloc mk6) w.heap.size Ab An As) w.heap.size w2.heap.size Ab An As := by
  have h1 : w.heap.size + 1 ≤ w2.heap.size := by have := hB.size; simpa using this
  have hb : Below w.heap.size w w2 := (((Below.refl _ _).alloc (Nat.le_refl _) _).drew).trans (hB.mono (by simp))
  exact k_set ((heap_alloc_old _ _ (by omega)).trans ((hB.block _ (by simp)).trans (alloc_at rfl))) (alloc_at rfl) (by omega) (Nat.le_refl _) (fun W' hW => hN W' (fun k hk h => (hW k (by simp at hk; omega)).trans (heap_alloc_old _ _ h))) (hb.alloc hb.size _)
theorem setL_size (W : World) (X : Nat) (Ab An As : Option Addr) : (setL W X Ab An As).heap.size = W.heap.size := by simp [setL]
theorem k7 {w w2 : World} {Ab An As : Option Addr} (hN : LineN ((w.alloc netZO).drew) w2 Ab An As) (hB : Below ((w.alloc netZO).drew).heap.size ((w.alloc netZO).drew) w2) : K10 w ((setL w2 w.heap.size Ab An As).alloc mk6) w.heap.size w2.heap.size Ab An As := by
  have h1 : w.heap.size + 1 ≤ w2.heap.size := by have := hB.size; simpa using this
  have hb : Below w.heap.size w w2 := (((Below.refl _ _).alloc (Nat.le_refl _) _).drew).trans (hB.mono (by simp))
  have hX := (hB.block w.heap.size (by simp)).trans (alloc_at (W := w) (o := netZO) rfl)
  have hs := setL_size w2 w.heap.size Ab An As
  refine ⟨Nat.le_refl _, (heap_alloc_old _ _ (by omega)).trans (set8_at hX), mk6_row (alloc_at hs.symm), hN _ (fun k hk h => ?_), (set8_below hb (Nat.le_refl _)).alloc (by omega) _⟩
  simp at hk
  exact (heap_alloc_old _ _ (by omega)).trans (set8_other (by omega))
theorem k5 {w w2 : World} {Ab An As : Option Addr} (hN : LineN (((w.alloc netZO).alloc mk6).drew) w2 Ab An As) (hB : Below (((w.alloc netZO).alloc mk6).drew).heap.size (((w.alloc netZO).alloc mk6).drew) w2) : K10 w (setL w2 w.heap.size Ab An As) w.heap.size (w.heap.size + 1) Ab An As := by
  have hb : Below w.heap.size w w2 := ((((Below.refl _ _).alloc (Nat.le_refl _) _).alloc (by simp) _).drew).trans (hB.mono (by simp; omega))
  exact k_set ((hB.block _ (by simp; omega)).trans ((heap_alloc_old _ _ (by simp)).trans (alloc_at rfl))) ((hB.block _ (by simp)).trans (alloc_at (by simp))) (by omega) (Nat.le_refl _) (fun W' hW => hN W' (fun k hk _ => hW k (by simp at hk; omega))) hb
theorem k6 {w w2 : World} {Ab An As : Option Addr} (hN : LineN (((w.alloc mk6).alloc netZO).drew) w2 Ab An As) (hB : Below (((w.alloc mk6).alloc netZO).drew).heap.size (((w.alloc mk6).alloc netZO).drew) w2) : K10 w (setL w2 (w.heap.size + 1) Ab An As) (w.heap.size + 1) w.heap.size Ab An As := by
  have hb : Below w.heap.size w w2 := ((((Below.refl _ _).alloc (Nat.le_refl _) _).alloc (by simp) _).drew).trans (hB.mono (by simp; omega))
  exact k_set ((hB.block _ (by simp)).trans (alloc_at (by simp))) ((hB.block _ (by simp; omega)).trans ((heap_alloc_old _ _ (by simp)).trans (alloc_at rfl))) (by omega) (by omega) (fun W' hW => hN W' (fun k hk _ => hW k (by simp at hk; omega))) hb
set_option maxRecDepth 100000 in
set_option maxHeartbeats 8000000 in
theorem known10_c (hM : DevMutual) (w : World) : Calls Try.prog 4 #[] w fun e w' => e = .returned (.bool true) ∧ Below w.heap.size w w' := by
  have HM := Lib.hid hM
  have CL := Lib.hid (fun W => line_c W)
  have mk : ∀ W : World, (Instr.makeSlice 30 (.int .i64 6) (.int .i64 6)).run Try.prog W = .ok (.slice (some ⟨W.heap.size, 0, none⟩) 6 6) (W.alloc (.cells (madeCells #[.bool false] 6) 4)) := make_bools 6 (by omega)
  clear hM
  go_enter Try.func4, Try.ntmps4
  go_upto_region 1 with fail
  go_cut [1, 2] (fun p q wx => ∃ X G Ab An As, p = .pointer (some ⟨X, 0, none⟩) ∧ q = .slice (some ⟨G, 0, none⟩) 6 6 ∧ Hid (K10 w wx X G Ab An As))
  case first =>
    go_region_with (go_at_call 15; refine (CL.out _).mono ?_; rintro e w2 ⟨Ab, An, As, rfl, hN2, hb2⟩; (first | (have hx9 : w2.heap[w.heap.size]? = some netZO := (hb2.block _ (by simp <;> omega)).trans (by first | exact heap_alloc_new _ _ | exact (heap_alloc_old _ _ (by simp)).trans (heap_alloc_new _ _)); have hX9 := Lib.hid hx9; obtain ⟨x0, x1, x2, x3, x4, x5, x6, x7, xf⟩ := row8z hx9; have ya := fun ob => row8z ((heap_alloc_old w2 ob (block_lt hx9)).trans hx9); have y0 := fun ob => (ya ob).1; have y1 := fun ob => (ya ob).2.1; have y2 := fun ob => (ya ob).2.2.1; have y3 := fun ob => (ya ob).2.2.2.1; have y4 := fun ob => (ya ob).2.2.2.2.1; have y5 := fun ob => (ya ob).2.2.2.2.2.1; have y6 := fun ob => (ya ob).2.2.2.2.2.2.1; have y7 := fun ob => (ya ob).2.2.2.2.2.2.2.1; have yf := fun ob => (ya ob).2.2.2.2.2.2.2.2; clear ya hx9) | (have hx9 : w2.heap[w.heap.size + 1]? = some netZO := (hb2.block _ (by simp <;> omega)).trans (heap_alloc2_new _ _ _); have hX9 := Lib.hid hx9; obtain ⟨x0, x1, x2, x3, x4, x5, x6, x7, xf⟩ := row8z hx9; clear hx9) | skip); have HN2 := Lib.hid hN2; have HB2 := Lib.hid hb2; clear hN2 hb2)
    all_goals
      go_wp2_with fail
      go_meet
      case rel =>
        refine ⟨_, _, Ab, An, As, rfl, rfl, Lib.hid ?_⟩
        first
        | (with_reducible exact k1 HN2.out HB2.out)
        | (with_reducible exact k2 HN2.out HB2.out)
        | (with_reducible exact k3 HN2.out HB2.out)
        | (with_reducible exact k3' HN2.out HB2.out)
        | (with_reducible exact k4 HN2.out HB2.out)
        | (with_reducible exact k5 HN2.out HB2.out)
        | (with_reducible exact k7 HN2.out HB2.out)
        | (with_reducible exact k6 HN2.out HB2.out)
  case rest =>
    obtain ⟨X, G, Ab, An, As, rfl, rfl, HK⟩ := hcut
    obtain ⟨hX, hC, hG, hN, hB⟩ := HK.out
    have hs := holds_row (xs := z6.map Bo) hG rfl
    have HA := Lib.hid (fun W (hW : Below wc.heap.size wc W) b f (hb : b < 3) (h0 : 0 ≤ f) (h8 : f ≤ 8) => allowed_c HM.out Ab An As none (some ⟨G, 0, none⟩) 3 3 2 0 6 b lineN z6 f W (hN.keep hW) lineN_ok (Nat.le_refl _) (hs.keep hW) lineN_cells.symm hb h0 h8)
    have HA0 := Lib.hid (fun W (hW : Below wc.heap.size wc W) => HA.out W hW 0 2 (by omega) (by omega) (by omega))
    have HA1 := Lib.hid (fun W (hW : Below wc.heap.size wc W) => HA.out W hW 1 1 (by omega) (by omega) (by omega))
    have HA2 := Lib.hid (fun W (hW : Below wc.heap.size wc W) => HA.out W hW 2 2 (by omega) (by omega) (by omega))
    have HS := Lib.hid (fun W (hW : Below wc.heap.size wc W) => devSlots_c Ab An As none (some ⟨G, 0, none⟩) 3 3 2 0 6 lineN z6 W (hN.keep hW) lineN_ok (Nat.le_refl _) (hs.keep hW) lineN_cells.symm (Nat.le_refl _))
    rw [may0] at HA0
    rw [may1] at HA1
    rw [may2] at HA2
    rw [show openSum z6 lineN.spurs lineN.spurs.length = 3 from line_slots] at HS
    have HR := Lib.hid (fun W (hW : Below wc.heap.size wc W) => row8l ((hW.block X (block_lt hC)).trans hC))
    have HBc := Lib.hid hB
    clear HA HK hC hG hN hB hs CL mk HM
    obtain ⟨x0, x1, x2, x3, x4, x5, x6, x7⟩ := HR.out _ (Below.refl _ _)
    go_wp2_with fail
    refine (HA0.out _ (Below.refl _ _)).mono ?_
    rintro e w1 ⟨rfl, hb1⟩
    have HB1 := Lib.hid hb1
    clear x0 x1 x2 x3 x4 x5 x6 x7 hb1
    obtain ⟨x0, x1, x2, x3, x4, x5, x6, x7⟩ := HR.out _ HB1.out
    go_wp2_with fail
    refine (HA1.out _ HB1.out).mono ?_
    rintro e w2 ⟨rfl, hb2⟩
    have HB2 := Lib.hid (HB1.out.trans (hb2.mono HB1.out.size))
    clear x0 x1 x2 x3 x4 x5 x6 x7 hb2
    obtain ⟨x0, x1, x2, x3, x4, x5, x6, x7⟩ := HR.out _ HB2.out
    go_wp2_with fail
    refine (HA2.out _ HB2.out).mono ?_
    rintro e w3 ⟨rfl, hb3⟩
    have HB3 := Lib.hid (HB2.out.trans (hb3.mono HB2.out.size))
    clear x0 x1 x2 x3 x4 x5 x6 x7 hb3
    obtain ⟨x0, x1, x2, x3, x4, x5, x6, x7⟩ := HR.out _ HB3.out
    go_wp2_with fail
    refine (HS.out _ HB3.out).mono ?_
    rintro e w4 ⟨rfl, hb4⟩
    have HB4 := Lib.hid (HBc.out.trans ((HB3.out.trans (hb4.mono HB3.out.size)).mono HBc.out.size))
    clear x0 x1 x2 x3 x4 x5 x6 x7 hb4
    go_wp2
    go_ret
    exact ⟨rfl, HB4.out⟩
end Go.Proofs.Ythfhplhdfnebhaa
