/- The example of chapter 14. -/
import Derived.Test.YtckknakpmaagnaaCnDev
import Derived.Test.YtckknakpmaagnaaCnSame
import Derived.Deep.RegionHeld3
import Derived.Deep.DeepCutAuto
import Derived.BigQuiet
namespace Go.Proofs.Ytckknakpmaagnaa
open Go Go.RowKit Fl

abbrev fA14 : FrD := ⟨1, 0, 1, 0, 0⟩
abbrev fB14 : FrD := ⟨1, 0, 2, 0, 0⟩
theorem send_a14 : sendL [] fA14 = [fA14] := rfl
theorem send_b14 : sendL [fA14] fB14 = [fA14, fB14] := rfl
theorem del_14 : delF [fA14, fB14] 1 = fB14 ∧ delL [fA14, fB14] 1 = [fA14] ∧ hasI [fA14, fB14] 1 = true := by decide
set_option maxRecDepth 100000 in
set_option maxHeartbeats 1000000 in
theorem known14_c (w : World) : Calls Try.prog 6 #[] w fun e w' => e = .returned (.bool true) ∧ Below w.heap.size w w' := by
  have HA : Hid (FrAt ((w.alloc (.cells (FC fA14) 25)).alloc (.cells (FC fB14) 25)) w.heap.size fA14) := Lib.hid ((FrAt.new w _).keep (below_newF _ _))
  have HB : Hid (FrAt ((w.alloc (.cells (FC fA14) 25)).alloc (.cells (FC fB14) 25)) (w.heap.size + 1) fB14) := Lib.hid (by
    have := FrAt.new (w.alloc (.cells (FC fA14) 25)) fB14
    rwa [show (w.alloc (.cells (FC fA14) 25)).heap.size = w.heap.size + 1 by simp] at this)
  have HW : Hid (Below w.heap.size w ((w.alloc (.cells (FC fA14) 25)).alloc (.cells (FC fB14) 25))) := Lib.hid ((below_newF _ _).alloc (by simp) _)
  have hsz : w.heap.size + 1 < ((w.alloc (.cells (FC fA14) 25)).alloc (.cells (FC fB14) 25)).heap.size := by simp
  go_enter Try.func6, Try.ntmps6
  go_wp2_with fail
  generalize (w.alloc (.cells #[.int .i64 1, .int .i64 0, .int .u64 1, .int .i64 0, .int .i64 0] 25)).alloc (.cells #[.int .i64 1, .int .i64 0, .int .u64 2, .int .i64 0, .int .i64 0] 25) = w2 at *
  have HS : Hid (∀ W, Below w2.heap.size w2 W → (W.cell? ⟨w.heap.size, 0, none⟩ = some (.int .i64 1) ∧ W.cell? ⟨w.heap.size, 1, none⟩ = some (.int .i64 0) ∧ W.cell? ⟨w.heap.size, 2, none⟩ = some (.int .u64 1) ∧ W.cell? ⟨w.heap.size, 3, none⟩ = some (.int .i64 0) ∧ W.cell? ⟨w.heap.size, 4, none⟩ = some (.int .i64 0)) ∧ W.cell? ⟨w.heap.size + 1, 0, none⟩ = some (.int .i64 1) ∧ W.cell? ⟨w.heap.size + 1, 1, none⟩ = some (.int .i64 0) ∧ W.cell? ⟨w.heap.size + 1, 2, none⟩ = some (.int .u64 2) ∧ W.cell? ⟨w.heap.size + 1, 3, none⟩ = some (.int .i64 0) ∧ W.cell? ⟨w.heap.size + 1, 4, none⟩ = some (.int .i64 0)) := Lib.hid (fun W hW => ⟨(HA.out.keep hW).cell, (HB.out.keep hW).cell⟩)
  have C1 : Hid (∀ W, Calls Try.prog 13 #[.slice none 0 0, .agg #[.int .i64 1, .int .i64 0, .int .u64 1, .int .i64 0, .int .i64 0]] W (SendPost [] fA14 W)) := Lib.hid (fun W => devSend_c none 0 [] fA14 W Holds.nil)
  have C2 : Hid (∀ A c W, Holds W A (frC [fA14]) → Calls Try.prog 13 #[.slice A 1 c, .agg #[.int .i64 1, .int .i64 0, .int .u64 2, .int .i64 0, .int .i64 0]] W (SendPost [fA14] fB14 W)) := Lib.hid (fun A c W h => devSend_c A c [fA14] fB14 W h)
  have hb2 : Below w2.heap.size w2 w2 := Below.refl _ _
  go_cut [3] (fun p wx => ∃ A c, p = .slice A 2 c ∧ 2 ≤ c ∧ Hid (Holds wx A (frC [fA14, fB14])) ∧ Hid (Below w2.heap.size w2 wx))
  case first =>
    go_region_held3 (fun W => (W.cell? ⟨w.heap.size, 0, none⟩ = some (.int .i64 1) ∧ W.cell? ⟨w.heap.size, 1, none⟩ = some (.int .i64 0) ∧ W.cell? ⟨w.heap.size, 2, none⟩ = some (.int .u64 1) ∧ W.cell? ⟨w.heap.size, 3, none⟩ = some (.int .i64 0) ∧ W.cell? ⟨w.heap.size, 4, none⟩ = some (.int .i64 0)) ∧ W.cell? ⟨w.heap.size + 1, 0, none⟩ = some (.int .i64 1) ∧ W.cell? ⟨w.heap.size + 1, 1, none⟩ = some (.int .i64 0) ∧ W.cell? ⟨w.heap.size + 1, 2, none⟩ = some (.int .u64 2) ∧ W.cell? ⟨w.heap.size + 1, 3, none⟩ = some (.int .i64 0) ∧ W.cell? ⟨w.heap.size + 1, 4, none⟩ = some (.int .i64 0)) (first | exact HS.out _ (by repeat (first | assumption | (with_reducible exact Below.refl _ _) | (with_reducible refine Below.drew ?_)))) (first | (go_at_call 13; (with_reducible refine (C1.out _).mono ?_); rintro e wA ⟨u1, rfl, hO1, hbA⟩; rw [send_a14] at hO1; obtain ⟨A1, c1, rfl, hc1, hH1⟩ := own_frs hO1; have hbA2 : Below w2.heap.size w2 wA := Below.trans (by repeat (first | assumption | (with_reducible exact Below.refl _ _) | (with_reducible refine Below.drew ?_))) (hbA.mono (Nat.le_refl _))) | (go_at_call 13; (with_reducible refine (C2.out _ _ _ (by first | exact hH1 | exact hH1.keep (Below.refl _ _).drew)).mono ?_); rintro e wB ⟨u2, rfl, hO2, hbB⟩; rw [send_b14] at hO2; obtain ⟨A2, c2, rfl, hc2, hH2⟩ := own_frs hO2; have hbB2 : Below w2.heap.size w2 wB := (by first | exact hbA2.trans (hbB.mono hbA2.size) | exact hbA2.drew.trans (hbB.mono hbA2.size))))
    all_goals
      go_wp2_with fail
      go_meet
      case rel => exact ⟨A2, c2, rfl, hc2, Lib.hid hH2, Lib.hid hbB2⟩
  case rest =>
    obtain ⟨A, c, rfl, hc, HH, HBc⟩ := hcut
    have HBw := Lib.hid (HW.out.trans (HBc.out.mono (by omega)))
    have CD : Hid (Calls Try.prog 10 #[.slice A 2 c, .int .i64 1] wc (DelPost [fA14, fB14] 1 wc)) := Lib.hid (devDel_c A c [fA14, fB14] 1 wc HH.out hc)
    have hsc := HBc.out.size
    have HAc := Lib.hid (HA.out.keep HBc.out)
    have HBb := Lib.hid (HB.out.keep HBc.out)
    clear HS C1 C2 HA HB HW HH
    unfold DelPost at CD
    rw [del_14.1, del_14.2.1, del_14.2.2] at CD
    go_wp2_with fail
    refine CD.out.mono ?_
    rintro e w5 ⟨u, rfl, hO5, hb5⟩
    obtain ⟨A5, c5, rfl, hc5, hH5⟩ := own_frs hO5
    have HX6 : Hid (FrAt (w5.alloc (.cells #[.int .i64 1, .int .i64 0, .int .u64 2, .int .i64 0, .int .i64 0] 25)) w5.heap.size fB14) := Lib.hid (FrAt.new w5 fB14)
    have HB6 := Lib.hid ((HBw.out.trans (hb5.mono (by omega))).alloc (by have := hb5.size; omega) (.cells #[.int .i64 1, .int .i64 0, .int .u64 2, .int .i64 0, .int .i64 0] 25))
    have HA6 := Lib.hid ((HAc.out.keep hb5).keep (below_newF w5 (.cells #[.int .i64 1, .int .i64 0, .int .u64 2, .int .i64 0, .int .i64 0] 25)))
    have HBb6 := Lib.hid ((HBb.out.keep hb5).keep (below_newF w5 (.cells #[.int .i64 1, .int .i64 0, .int .u64 2, .int .i64 0, .int .i64 0] 25)))
    have hH6 := hH5.keep (below_newF w5 (.cells #[.int .i64 1, .int .i64 0, .int .u64 2, .int .i64 0, .int .i64 0] 25))
    obtain ⟨b7, o7, rfl, _, e0, e1, e2, e3, e4⟩ := holds_frm (l := [fA14]) hH6 (k := 0) (by decide)
    obtain ⟨x0, x1, x2, x3, x4⟩ := HX6.out.cell
    obtain ⟨y0, y1, y2, y3, y4⟩ := HA6.out.cell
    obtain ⟨z0, z1, z2, z3, z4⟩ := HBb6.out.cell
    have hefA := fun W => eq_frame fA14 fA14 W
    have hefB := fun W => eq_frame fB14 fB14 W
    have hgd := guard_frame
    simp only [decide_true] at hefA hefB
    simp only [List.getElem_cons_zero, Nat.zero_mul, Nat.add_zero] at e0 e1 e2 e3 e4
    clear hO5 hH5 hH6 hb5 HX6 HA6 HBb6 HBw HBc HAc HBb CD
    go_wp2_with fail
    generalize w5.alloc (.cells #[.int .i64 1, .int .i64 0, .int .u64 2, .int .i64 0, .int .i64 0] 25) = w6 at *
    go_quiet (fail)
    go_wp2
    go_ret
    exact ⟨by first | rfl | simp, below_drewN HB6.out _⟩
end Go.Proofs.Ytckknakpmaagnaa
