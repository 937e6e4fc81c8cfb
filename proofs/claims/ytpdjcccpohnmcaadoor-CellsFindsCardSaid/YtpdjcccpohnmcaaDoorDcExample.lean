/- The example of layer 9's statements, and their sanity check. -/
import Derived.Test.YtpdjcccpohnmcaaDoorDcName
import Derived.Test.YtpdjcccpohnmcaaDoorDcOpen
import Derived.Test.YtpdjcccpohnmcaaDoorMjM
namespace Go.Proofs.YtpdjcccpohnmcaaDoor
open Go Go.RowKit Fl

abbrev exN : NetD := ⟨[⟨[97], 0, 0⟩, ⟨[98], 0, 0⟩], [[1], [0]], [⟨[100], true, 0, 1, 2, 2⟩], [3], 4, 2, 1, 8⟩
theorem exN_ok : NetOk exN := by
  refine ⟨by decide, by decide, by decide, by decide, by decide, by decide, by decide, by decide, by decide, by decide, ⟨by decide, by decide, by decide, by decide⟩, ?_, ?_, ?_, by decide, ⟨_, List.mem_cons_self, rfl⟩⟩
  · intro s hs
    simp only [List.mem_cons, List.not_mem_nil, or_false] at hs
    subst hs
    exact ⟨by decide, by decide, by decide⟩
  · intro k hk
    match k, hk with
    | 0, _ => rfl
  · intro x hx
    simp only [List.mem_cons, List.not_mem_nil, or_false] at hx
    subst hx
    exact ⟨_, List.mem_cons_self, rfl, by decide, by decide⟩
theorem exN_cells : cellsN exN = 4 := by decide
theorem allocE_at {W : World} {o : Obj} {k : Nat} (h : k = W.heap.size) : (W.alloc o).heap[k]? = some o := by
  subst h
  exact heap_alloc_new W o
theorem alloc7e (w : World) (o0 o1 o2 o3 o4 o5 o6 : Obj) : (((((((w.alloc o0).alloc o1).alloc o2).alloc o3).alloc o4).alloc o5).alloc o6).heap[w.heap.size]? = some o0 ∧ (((((((w.alloc o0).alloc o1).alloc o2).alloc o3).alloc o4).alloc o5).alloc o6).heap[w.heap.size + 1]? = some o1 ∧ (((((((w.alloc o0).alloc o1).alloc o2).alloc o3).alloc o4).alloc o5).alloc o6).heap[w.heap.size + 1 + 1]? = some o2 ∧ (((((((w.alloc o0).alloc o1).alloc o2).alloc o3).alloc o4).alloc o5).alloc o6).heap[w.heap.size + 1 + 1 + 1]? = some o3 ∧ (((((((w.alloc o0).alloc o1).alloc o2).alloc o3).alloc o4).alloc o5).alloc o6).heap[w.heap.size + 1 + 1 + 1 + 1]? = some o4 ∧ (((((((w.alloc o0).alloc o1).alloc o2).alloc o3).alloc o4).alloc o5).alloc o6).heap[w.heap.size + 1 + 1 + 1 + 1 + 1]? = some o5 ∧ (((((((w.alloc o0).alloc o1).alloc o2).alloc o3).alloc o4).alloc o5).alloc o6).heap[w.heap.size + 1 + 1 + 1 + 1 + 1 + 1]? = some o6 ∧ Below w.heap.size w (((((((w.alloc o0).alloc o1).alloc o2).alloc o3).alloc o4).alloc o5).alloc o6) := by
  refine ⟨?_, ?_, ?_, ?_, ?_, ?_, ?_, ?_⟩
  · exact (Below.heap_alloc _ _ _ (by simp; try omega)).trans ((Below.heap_alloc _ _ _ (by simp; try omega)).trans ((Below.heap_alloc _ _ _ (by simp; try omega)).trans ((Below.heap_alloc _ _ _ (by simp; try omega)).trans ((Below.heap_alloc _ _ _ (by simp; try omega)).trans ((Below.heap_alloc _ _ _ (by simp; try omega)).trans (allocE_at rfl))))))
  · exact (Below.heap_alloc _ _ _ (by simp; try omega)).trans ((Below.heap_alloc _ _ _ (by simp; try omega)).trans ((Below.heap_alloc _ _ _ (by simp; try omega)).trans ((Below.heap_alloc _ _ _ (by simp; try omega)).trans ((Below.heap_alloc _ _ _ (by simp; try omega)).trans (allocE_at (by simp))))))
  · exact (Below.heap_alloc _ _ _ (by simp; try omega)).trans ((Below.heap_alloc _ _ _ (by simp; try omega)).trans ((Below.heap_alloc _ _ _ (by simp; try omega)).trans ((Below.heap_alloc _ _ _ (by simp; try omega)).trans (allocE_at (by simp)))))
  · exact (Below.heap_alloc _ _ _ (by simp; try omega)).trans ((Below.heap_alloc _ _ _ (by simp; try omega)).trans ((Below.heap_alloc _ _ _ (by simp; try omega)).trans (allocE_at (by simp))))
  · exact (Below.heap_alloc _ _ _ (by simp; try omega)).trans ((Below.heap_alloc _ _ _ (by simp; try omega)).trans (allocE_at (by simp)))
  · exact (Below.heap_alloc _ _ _ (by simp; try omega)).trans (allocE_at (by simp))
  · exact allocE_at (by simp)
  · exact (((((((Below.refl _ _).alloc (Nat.le_refl _) _).alloc (by simp) _).alloc (by simp; try omega) _).alloc (by simp; try omega) _).alloc (by simp; try omega) _).alloc (by simp; try omega) _).alloc (by simp; try omega) _
theorem rowsAt_lit2 {w : World} {b b0 b1 : Nat} {l0 l1 : List Int} (h : w.heap[b]? = some (.cells #[.slice (some ⟨b0, 0, none⟩) l0.length l0.length, .slice (some ⟨b1, 0, none⟩) l1.length l1.length] 25 (0, 0)))
    (h0 : w.heap[b0]? = some (.cells (l0.map Iv).toArray 3 (0, 0))) (h1 : w.heap[b1]? = some (.cells (l1.map Iv).toArray 3 (0, 0))) : RowsAt w (some ⟨b, 0, none⟩) [l0, l1] := by
  refine .inr ⟨b, 0, rfl, block_lt h, fun k hk => ?_⟩
  match k, hk with
  | 0, _ => exact ⟨_, _, by rw [cell_of_row w b _ _ _ _ h]; rfl, holds_row h0 rfl⟩
  | 1, _ => exact ⟨_, _, by rw [cell_of_row w b _ _ _ _ h]; rfl, holds_row h1 rfl⟩
set_option maxRecDepth 100000 in
set_option maxHeartbeats 4000000 in
theorem example_c (w : World) : Calls Tryd.prog 24 #[] w fun e w' => ∃ (Ab An As Ar : Option Addr), e = .returned (.agg #[.slice Ab 2 2, .slice An 2 2, .slice As 1 1, .slice Ar 1 1, Iv 4, Iv 2, Iv 1, Iv 8]) ∧ NetAt w' Ab An As Ar exN ∧ Below w.heap.size w w' := by
  go_enter Tryd.func24, Tryd.ntmps24
  go_wp2
  obtain ⟨e0, e1, e2, e3, e4, e5, e6, hb⟩ := alloc7e w (.cells #[.slice (some ⟨w.heap.size + 1, 0, none⟩) 2 2, .slice (some ⟨w.heap.size + 1 + 1 + 1 + 1, 0, none⟩) 2 2, .slice (some ⟨w.heap.size + 1 + 1 + 1 + 1 + 1, 0, none⟩) 1 1, .slice (some ⟨w.heap.size + 1 + 1 + 1 + 1 + 1 + 1, 0, none⟩) 1 1, .int .i64 4, .int .i64 2, .int .i64 1, .int .i64 8] 29) (.cells #[Sv [97], Iv 0, Iv 0, Sv [98], Iv 0, Iv 0] 73) (.cells #[Iv 1] 3) (.cells #[Iv 0] 3) (.cells #[.slice (some ⟨w.heap.size + 1 + 1, 0, none⟩) 1 1, .slice (some ⟨w.heap.size + 1 + 1 + 1, 0, none⟩) 1 1] 25) (.cells #[Sv [100], Bo true, Iv 0, Iv 1, Iv 2, Iv 2] 57) (.cells #[Iv 3] 3)
  refine bodyPost_ret (results_cell_row rfl _ _ w.heap.size 29 _ (0, 0) _ rfl e0 Tryd.underlying29 rfl (by kernel_rfl)) rfl ?_
  exact ⟨_, _, _, _, rfl, ⟨holds_row e1 rfl, rowsAt_lit2 e4 e2 e3, holds_row e5 rfl, holds_row e6 rfl⟩, hb⟩
set_option maxRecDepth 100000 in
set_option maxHeartbeats 4000000 in
theorem known9_c (w : World) (hp : Pows w) : Calls Tryd.prog 4 #[] w fun e w' => e = .returned (.bool true) ∧ Below w.heap.size w w' := by
  have CE := Lib.hid (example_c w)
  have HP := Lib.hid hp
  clear hp
  go_enter Tryd.func4, Tryd.ntmps4
  go_wp2_with fail
  refine CE.out.mono ?_
  rintro e w1 ⟨Ab, An, As, Ar, rfl, hN, hb1⟩
  have HB1 := Lib.hid hb1
  have HNt := Lib.hid (fun W (hW : Below w1.heap.size w1 W) => hN.keep hW)
  have HPw := Lib.hid (fun W (hW : Below w1.heap.size w1 W) => (HP.out.keep (hb1.trans (hW.mono hb1.size))))
  clear hN hb1 CE
  have hB2 := Lib.hid ((Below.refl w1.heap.size w1).alloc (Nat.le_refl _) (.cells (netCells Ab An As Ar 2 2 1 1 exN) 29))
  have HX := Lib.hid (boxAt_of (heap_alloc_new w1 (.cells (netCells Ab An As Ar 2 2 1 1 exN) 29)))
  have hsz0 : w1.heap.size < (w1.alloc (.cells (netCells Ab An As Ar 2 2 1 1 exN) 29)).heap.size := by simp
  obtain ⟨x0, x1, x2, x3, x4, x5, x6, x7⟩ := boxAt_of (heap_alloc_new w1 (.cells (netCells Ab An As Ar 2 2 1 1 exN) 29))
  go_upto_region 2 with fail
  generalize w1.alloc (.cells (netCells Ab An As Ar 2 2 1 1 exN) 29) = w2 at *
  have CN0 : Hid (∀ W, Below w1.heap.size w1 W → Calls Tryd.prog 17 #[.agg #[.slice Ab 2 2, .slice An 2 2, .slice As 1 1, .slice Ar 1 1, Iv 4, Iv 2, Iv 1, Iv 8], .int .i64 0] W (NextPost2 W [1, 2])) := Lib.hid (fun W hW => by
    have h := nextB_c Ab An As Ar 2 2 1 1 0 exN W (HNt.out W hW) exN_ok (by decide) (by decide) (by decide)
    rw [show exN.next[0] ++ spurBases exN.spurs (0 : Nat) = [1, 2] from by decide] at h
    exact h)
  have CN3 : Hid (∀ W, Below w1.heap.size w1 W → Calls Tryd.prog 17 #[.agg #[.slice Ab 2 2, .slice An 2 2, .slice As 1 1, .slice Ar 1 1, Iv 4, Iv 2, Iv 1, Iv 8], .int .i64 3] W (NextPost2 W [1])) := Lib.hid (fun W hW => nextS_c Ab An As Ar 2 2 1 1 0 exN 3 W (HNt.out W hW) exN_ok (by decide) (by decide) (by decide) (by decide))
  have CF : Hid (∀ W, Below w1.heap.size w1 W → Calls Tryd.prog 13 #[.agg #[.slice Ab 2 2, .slice An 2 2, .slice As 1 1, .slice Ar 1 1, Iv 4, Iv 2, Iv 1, Iv 8], .int .i64 2, .int .i64 3] W fun e w' => e = .returned (.bool true) ∧ Below W.heap.size W w') := Lib.hid (fun W hW => follows_c Ab An As Ar 2 2 1 1 exN 2 3 [3] W (by decide) (fun W' hW' => nextS_c Ab An As Ar 2 2 1 1 0 exN 2 W' (HNt.out W' (hW.trans (hW'.mono hW.size))) exN_ok (by decide) (by decide) (by decide) (by decide)))
  have CCt : Hid (∀ W, Below w1.heap.size w1 W → Calls Tryd.prog 9 #[.agg #[.slice Ab 2 2, .slice An 2 2, .slice As 1 1, .slice Ar 1 1, Iv 4, Iv 2, Iv 1, Iv 8]] W fun e w' => e = .returned (.tuple #[.int .i64 4, .int .i64 0]) ∧ Below W.heap.size W w') := Lib.hid (fun W hW => by
    have h := count_c Ab An As Ar 2 2 1 1 exN W (HNt.out W hW) exN_ok (by decide)
    rw [exN_cells] at h
    exact h)
  have CNm : Hid (∀ W, Below w1.heap.size w1 W → Calls Tryd.prog 22 #[.agg #[.slice Ab 2 2, .slice An 2 2, .slice As 1 1, .slice Ar 1 1, Iv 4, Iv 2, Iv 1, Iv 8], .int .i64 3] W fun e w' => e = .returned (.tuple #[.string ⟨#[100, 47, 50]⟩, .int .i64 0]) ∧ Below W.heap.size W w') := Lib.hid (fun W hW => by
    have h := nameS_c Ab An As Ar 2 2 1 1 0 exN 3 W (HNt.out W hW) exN_ok (by decide) (HPw.out W hW) (by decide) (by decide) (by decide)
    rw [show slotName exN.spurs[0].name ((3 : Int) - exN.spurs[0].base + 1) = [100, 47, 50] from by decide] at h
    exact h)
  have HXW : Hid (∀ W, Below w2.heap.size w2 W → W.cell? ⟨w1.heap.size, 0, none⟩ = some (.slice Ab 2 2) ∧ W.cell? ⟨w1.heap.size, 1, none⟩ = some (.slice An 2 2) ∧ W.cell? ⟨w1.heap.size, 2, none⟩ = some (.slice As 1 1) ∧ W.cell? ⟨w1.heap.size, 3, none⟩ = some (.slice Ar 1 1) ∧ W.cell? ⟨w1.heap.size, 4, none⟩ = some (Iv 4) ∧ W.cell? ⟨w1.heap.size, 5, none⟩ = some (Iv 2) ∧ W.cell? ⟨w1.heap.size, 6, none⟩ = some (Iv 1) ∧ W.cell? ⟨w1.heap.size, 7, none⟩ = some (Iv 8)) := Lib.hid (fun W hW => by
    obtain ⟨y0, y1, y2, y3, y4, y5, y6, y7⟩ := HX.out.keep hsz0 hW
    exact ⟨y0, y1, y2, y3, y4, y5, y6, y7⟩)
  have HBW : Hid (∀ W, Below w2.heap.size w2 W → Below w1.heap.size w1 W) := Lib.hid (fun W hW => hB2.out.trans (hW.mono (Nat.le_of_lt hsz0)))
  clear x0 x1 x2 x3 x4 x5 x6 x7 HX HNt HPw HP hB2 hsz0
  obtain ⟨x0, x1, x2, x3, x4, x5, x6, x7⟩ := HXW.out w2 (Below.refl _ _)
  go_wp2_with fail
  refine (CN0.out _ (HBW.out _ (Below.refl _ _))).mono ?_
  rintro e w3 ⟨u, rfl, hu, hb3⟩
  obtain ⟨A3, c3, rfl, hh3⟩ := own_is hu
  have HH3 := Lib.hid hh3
  have HB3 := Lib.hid hb3
  clear hu hh3 hb3 x0 x1 x2 x3 x4 x5 x6 x7 CN0
  obtain ⟨x0, x1, x2, x3, x4, x5, x6, x7⟩ := HXW.out w3 HB3.out
  go_wp2_with fail
  refine (CN3.out _ (HBW.out _ HB3.out)).mono ?_
  rintro e w4 ⟨u, rfl, hu, hb4⟩
  obtain ⟨A4, c4, rfl, hh4⟩ := own_is hu
  have HH4 := Lib.hid hh4
  have HH34 := Lib.hid (HH3.out.keep hb4)
  have HB4 := Lib.hid (HB3.out.trans (hb4.mono HB3.out.size))
  clear hu hh4 hb4 x0 x1 x2 x3 x4 x5 x6 x7 CN3 HB3 HH3
  obtain ⟨x0, x1, x2, x3, x4, x5, x6, x7⟩ := HXW.out w4 HB4.out
  go_wp2_with fail
  refine (CCt.out _ (HBW.out _ HB4.out)).mono ?_
  rintro e w5 ⟨rfl, hb5⟩
  have HH35 := Lib.hid (HH34.out.keep hb5)
  have HH45 := Lib.hid (HH4.out.keep hb5)
  have HB5 := Lib.hid (HB4.out.trans (hb5.mono HB4.out.size))
  clear hb5 x0 x1 x2 x3 x4 x5 x6 x7 CCt HB4 HH34 HH4
  obtain ⟨x0, x1, x2, x3, x4, x5, x6, x7⟩ := HXW.out w5 HB5.out
  go_wp2_with fail
  refine (CNm.out _ (HBW.out _ HB5.out)).mono ?_
  rintro e w6 ⟨rfl, hb6⟩
  have HH36 := Lib.hid (HH35.out.keep hb6)
  have HH46 := Lib.hid (HH45.out.keep hb6)
  have HB6 := Lib.hid (HB5.out.trans (hb6.mono HB5.out.size))
  clear hb6 x0 x1 x2 x3 x4 x5 x6 x7 CNm HB5 HH35 HH45
  obtain ⟨x0, x1, x2, x3, x4, x5, x6, x7⟩ := HXW.out w6 HB6.out
  go_wp2_with fail
  have hl : Holds (w6.alloc (.cells #[Iv 1, Iv 2] 3)) (some ⟨w6.heap.size, 0, none⟩) (([1, 2] : List Int).map Iv) := holds_row (heap_alloc_new _ _) rfl
  refine (sameIntsE_c A3 (some ⟨w6.heap.size, 0, none⟩) c3 2 [1, 2] (w6.alloc (.cells #[Iv 1, Iv 2] 3)) (HH36.out.keep ((Below.refl _ _).alloc (Nat.le_refl _) _)) hl (by decide)).mono ?_
  clear hl
  rintro e w7 ⟨rfl, n7, rfl⟩
  have HB7 : Hid (Below w6.heap.size w6 ((w6.alloc (.cells #[Iv 1, Iv 2] 3)).drewN n7)) := Lib.hid (below_drewN ((Below.refl _ _).alloc (Nat.le_refl _) _) n7)
  generalize (w6.alloc (.cells #[Iv 1, Iv 2] 3)).drewN n7 = w7 at *
  have HH47 := Lib.hid (HH46.out.keep HB7.out)
  have HB27 := Lib.hid (HB6.out.trans (HB7.out.mono HB6.out.size))
  clear HB7 HH46 HH36 HB6 x0 x1 x2 x3 x4 x5 x6 x7
  obtain ⟨x0, x1, x2, x3, x4, x5, x6, x7⟩ := HXW.out w7 HB27.out
  go_wp2_with fail
  have hl : Holds (w7.alloc (.cells #[Iv 1] 3)) (some ⟨w7.heap.size, 0, none⟩) (([1] : List Int).map Iv) := holds_row (heap_alloc_new _ _) rfl
  refine (sameIntsE_c A4 (some ⟨w7.heap.size, 0, none⟩) c4 1 [1] (w7.alloc (.cells #[Iv 1] 3)) (HH47.out.keep ((Below.refl _ _).alloc (Nat.le_refl _) _)) hl (by decide)).mono ?_
  clear hl
  rintro e w8 ⟨rfl, n8, rfl⟩
  have HB8 : Hid (Below w7.heap.size w7 ((w7.alloc (.cells #[Iv 1] 3)).drewN n8)) := Lib.hid (below_drewN ((Below.refl _ _).alloc (Nat.le_refl _) _) n8)
  generalize (w7.alloc (.cells #[Iv 1] 3)).drewN n8 = w8 at *
  have HB28 := Lib.hid (HB27.out.trans (HB8.out.mono HB27.out.size))
  clear HB8 HH47 HB27 x0 x1 x2 x3 x4 x5 x6 x7
  obtain ⟨x0, x1, x2, x3, x4, x5, x6, x7⟩ := HXW.out w8 HB28.out
  go_wp2_with fail
  refine (CF.out _ (HBW.out _ HB28.out)).mono ?_
  rintro e w9 ⟨rfl, hb9⟩
  have HB9 := Lib.hid (HB1.out.trans ((HBW.out _ (HB28.out.trans (hb9.mono HB28.out.size))).mono HB1.out.size))
  clear hb9 x0 x1 x2 x3 x4 x5 x6 x7
  go_wp2
  go_ret
  exact ⟨rfl, HB9.out⟩
end Go.Proofs.YtpdjcccpohnmcaaDoor
