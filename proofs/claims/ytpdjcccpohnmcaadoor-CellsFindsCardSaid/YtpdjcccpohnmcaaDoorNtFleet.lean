/- Contract of the reference's Fleet of layer 11, on valid networks. -/
import Derived.Test.YtpdjcccpohnmcaaDoorNtFew
import Derived.Test.YtpdjcccpohnmcaaDoorMjN
namespace Go.Proofs.YtpdjcccpohnmcaaDoor
open Go Go.RowKit Fl

set_option maxRecDepth 100000 in
set_option maxHeartbeats 8000000 in
theorem fleet_c (Ab An As Ar : Option Addr) (cb cn cs cr : Nat) (N : NetD) (w : World) (hN : NetAt w Ab An As Ar N) (hok : NetOk N) (hcr : N.robots.length ≤ cr) :
    Calls Tryd.prog 45 #[.agg #[.slice Ab N.blocks.length cb, .slice An N.next.length cn, .slice As N.spurs.length cs, .slice Ar N.robots.length cr, Iv N.queue, Iv N.aging, Iv N.detours, Iv N.patience]] w (FleetPost w N) := by
  have CV := Lib.hid (fun W (hW : Below w.heap.size w W) => validNet_c Ab An As Ar cb cn cs cr N W (hN.keep hW) hok hcr)
  have CCe := Lib.hid (fun W (hW : Below w.heap.size w W) => cells_c Ab An As Ar cb cn cs cr N W (hN.keep hW) hok.few')
  have CG := Lib.hid (fun W B d (hW : Below w.heap.size w W) (hB : Holds W B ((opens N.blocks.length).map Bo)) => girth_c An B cn d N.next (opens N.blocks.length) W (hN.next.keep hW) hB hok.graph (by simp [opens, hok.lanes]))
  have CS := Lib.hid (fun W B d (hW : Below w.heap.size w W) (hB : Holds W B ((opens (cellsN N).toNat).map Bo)) => slots_c Ab An As Ar B cb cn cs cr d N (opens (cellsN N).toNat) W (hN.keep hW) hB hok.spurs6 (by have := cellsN_le hok.few'; simp [opens]; omega) (by simpa [opens] using hok.spurIn))
  have hce := cellsN_le hok.few'
  have hsl := openSum_bounds (s := opens (cellsN N).toNat) (l := N.spurs) hok.few'.2.2 N.spurs.length (Nat.le_refl _)
  have hgl := girK_short (s := opens N.blocks.length) hok.graph N.next.length (Nat.le_refl _)
  have h24 := hok.few
  have h6 := hok.spurs6
  have e1 : (opens N.blocks.length).length = N.blocks.length := by simp [opens]
  have e2 : (opens (cellsN N).toNat).length = (cellsN N).toNat := by simp [opens]
  rw [e1] at CG
  rw [e2] at CS
  obtain ⟨nc, hnc⟩ : ∃ nc, nc = (cellsN N).toNat := ⟨_, rfl⟩
  rw [show cellsN N = (nc : Int) by omega] at CCe
  have hnc48 : nc ≤ 48 := by omega
  rw [← hnc] at CS hsl
  have HSl : Hid (slotsN N = openSum (opens nc) N.spurs N.spurs.length) := Lib.hid (by rw [hnc]; rfl)
  have HGi : Hid (girN N = girF N.next (opens N.blocks.length)) := Lib.hid rfl
  have hgl2 : (girN N).length ≤ 25 := hgl
  rw [← HSl.out] at CS hsl
  rw [← HGi.out] at CG
  have h2o := heap_alloc2_old w (.cells (netCells Ab An As Ar cb cn cs cr N) 29) (.cells #[.int .i64 0, .slice none 0 0, .int .i64 0, .int .i64 0] 78)
  have h2n := heap_alloc2_new w (.cells (netCells Ab An As Ar cb cn cs cr N) 29) (.cells #[.int .i64 0, .slice none 0 0, .int .i64 0, .int .i64 0] 78)
  have hB0 : Below w.heap.size w ((w.alloc (.cells (netCells Ab An As Ar cb cn cs cr N) 29)).alloc (.cells #[.int .i64 0, .slice none 0 0, .int .i64 0, .int .i64 0] 78)) := ((Below.refl _ _).alloc (Nat.le_refl _) _).alloc (by simp) _
  have hX0 := boxAt_of h2o
  obtain ⟨x0, x1, x2, x3, x4, x5, x6, x7⟩ := boxAt_of h2o
  have hsz0 : ((w.alloc (.cells (netCells Ab An As Ar cb cn cs cr N) 29)).alloc (.cells #[.int .i64 0, .slice none 0 0, .int .i64 0, .int .i64 0] 78)).heap.size = w.heap.size + 2 := by simp
  have HX0 := Lib.hid hX0
  have HP0 := Lib.hid h2n
  clear hN hok h2o h2n hX0 hnc
  go_enter Tryd.func45, Tryd.ntmps45
  go_wp2_with fail
  generalize (w.alloc (.cells (netCells Ab An As Ar cb cn cs cr N) 29)).alloc (.cells #[.int .i64 0, .slice none 0 0, .int .i64 0, .int .i64 0] 78) = w0 at *
  have HB0 := Lib.hid hB0
  have hsz1 : w.heap.size < w0.heap.size := by omega
  refine (CV.out w0 hB0).mono ?_
  rintro e w1 ⟨rfl, hb1⟩
  have HB1 := Lib.hid (hB0.trans (hb1.mono hB0.size))
  have HX1 := Lib.hid (HX0.out.keep hsz1 hb1)
  have HP1 : Hid (w1.heap[w.heap.size + 1]? = some (.cells #[.int .i64 0, .slice none 0 0, .int .i64 0, .int .i64 0] 78 (0, 0))) := Lib.hid ((hb1.block _ (by omega)).trans HP0.out)
  have hsz2 : w.heap.size + 2 ≤ w1.heap.size := by have := hb1.size; omega
  clear x0 x1 x2 x3 x4 x5 x6 x7 hb1 CV HX0 HP0 hB0 HB0 hsz0 hsz1
  have CGH : Hid (∀ W, Below w1.heap.size w1 W → W.heap[w1.heap.size]? = some (.cells (madeCells #[.bool false] N.blocks.length) 4 (0, 0)) → Calls Tryd.prog 60 #[.slice An N.next.length cn, .slice (some ⟨w1.heap.size, 0, none⟩) N.blocks.length N.blocks.length] W (GirthPost W (girN N))) := Lib.hid (fun W h1 h2 => CG.out W _ _ (HB1.out.trans (h1.mono HB1.out.size)) (holds_row h2 (made_bools _)))
  have HW := Lib.hid (fun W (hW : Below w1.heap.size w1 W) => HX1.out.keep (by omega) hW)
  obtain ⟨x0, x1, x2, x3, x4, x5, x6, x7⟩ := HX1.out
  clear CG
  go_wp2_with fail
  go_upto_region 3 with fail
  go_cut [4, 5, 6] (fun g c e wx => g = .int .i64 (girN N).length ∧ e = .int .i64 0 ∧ (∃ A cc, c = .slice A (girN N).length cc) ∧ Hid (wx.ownsRow w1.heap.size 3 1 c (girN N).length ((girN N).map Iv)) ∧ Below w1.heap.size w1 wx)
  case first =>
    have mk := make_bools N.blocks.length (by omega)
    have x0a : ∀ ob, (w1.alloc ob).cell? ⟨w.heap.size, 0, none⟩ = some (.slice Ab N.blocks.length cb) := fun ob => (HW.out _ ((Below.refl _ _).alloc (Nat.le_refl _) ob)).c0
    have x1a : ∀ ob, (w1.alloc ob).cell? ⟨w.heap.size, 1, none⟩ = some (.slice An N.next.length cn) := fun ob => (HW.out _ ((Below.refl _ _).alloc (Nat.le_refl _) ob)).c1
    clear x2 x3 x4 x5 x6 x7
    go_region_with (go_at_call 60; refine (CGH.out _ (((Below.refl _ _).alloc (Nat.le_refl _) _).drew) (heap_alloc_new w1 _)).mono ?_; rintro e w2 ⟨v, rfl, own2, hb2⟩)
    all_goals
      have HO2 : Hid (w2.ownsRow w1.heap.size 3 1 v (girN N).length ((girN N).map Iv)) := Lib.hid (ownsRow_base own2 (by simp))
      have HB2 := Lib.hid ((((Below.refl w1.heap.size w1).alloc (Nat.le_refl _) _).drew).trans (hb2.mono (by simp)))
      have HS2 := Lib.hid (own_is own2)
      clear own2 hb2
      go_wp2_with fail
      go_meet
      case rel =>
        obtain ⟨A, c, e, _⟩ := HS2.out
        exact ⟨rfl, rfl, ⟨A, c, e⟩, HO2, HB2.out⟩
  case rest =>
    obtain ⟨rfl, rfl, ⟨Ac, cc, rfl⟩, HOc, hbc⟩ := hcut
    have HBc := Lib.hid (HB1.out.trans (hbc.mono HB1.out.size))
    have HPc : Hid (wc.heap[w.heap.size + 1]? = some (.cells zeroCap 78 (0, 0))) := Lib.hid ((hbc.block _ (by omega)).trans HP1.out)
    have HWc := Lib.hid (fun W (hW : Below wc.heap.size wc W) => HW.out W (hbc.trans (hW.mono hbc.size)))
    have hszc : w.heap.size + 2 ≤ wc.heap.size := by have := hbc.size; omega
    have HOc2 := Lib.hid (fun W (hW : Below wc.heap.size wc W) => ownsRow_below HOc.out hW)
    have CC2 : Hid (∀ W, Below wc.heap.size wc W → Calls Tryd.prog 6 #[.agg #[.slice Ab N.blocks.length cb, .slice An N.next.length cn, .slice As N.spurs.length cs, .slice Ar N.robots.length cr, Iv N.queue, Iv N.aging, Iv N.detours, Iv N.patience]] W fun e w' => e = .returned (.int .i64 nc) ∧ Below wc.heap.size wc w' ∧ Below W.heap.size W w') := Lib.hid (fun W hW => (CCe.out W (HBc.out.trans (hW.mono HBc.out.size))).mono fun e w' ⟨h1, h2⟩ => ⟨h1, hW.trans (h2.mono hW.size), h2⟩)
    have CS2 : Hid (∀ W q, Below wc.heap.size wc W → W.heap[q]? = some (.cells (madeCells #[.bool false] nc) 4 (0, 0)) → Calls Tryd.prog 61 #[.agg #[.slice Ab N.blocks.length cb, .slice An N.next.length cn, .slice As N.spurs.length cs, .slice Ar N.robots.length cr, Iv N.queue, Iv N.aging, Iv N.detours, Iv N.patience], .slice (some ⟨q, 0, none⟩) nc nc] W fun e w' => e = .returned (.int .i64 (slotsN N)) ∧ Below wc.heap.size wc w' ∧ Below W.heap.size W w') := Lib.hid (fun W q hW hq => by
      have h := CS.out W (some ⟨q, 0, none⟩) nc (HBc.out.trans (hW.mono HBc.out.size)) (holds_row hq (made_bools _))
      exact h.mono fun e w' ⟨h1, h2⟩ => ⟨h1, hW.trans (h2.mono hW.size), h2⟩)
    have mk := make_bools nc (by omega)
    obtain ⟨gl, hgl0⟩ : ∃ gl, gl = (girN N).length := ⟨_, rfl⟩
    rw [← hgl0] at hgl2 ⊢
    have HGL := Lib.hid hgl0
    clear hbc x0 x1 x2 x3 x4 x5 x6 x7 CCe CS HW hgl0
    obtain ⟨x0, x1, x2, x3, x4, x5, x6, x7⟩ := HWc.out _ (Below.refl _ _)
    go_wp2_with fail
    go_cut [7] (fun p wx => ∃ Y, p = .pointer (some ⟨Y, 0, none⟩) ∧ wc.heap.size ≤ Y ∧ Hid (wx.heap[Y]? = some (.cells #[.int .i64 gl, .slice Ac gl cc, Iv (slotsN N), .int .i64 0] 78 (0, 0))) ∧ Below wc.heap.size wc wx)
    case first =>
      go_region_held3 (fun W => W.cell? ⟨w.heap.size, 0, none⟩ = some (.slice Ab N.blocks.length cb) ∧ W.cell? ⟨w.heap.size, 1, none⟩ = some (.slice An N.next.length cn) ∧ W.cell? ⟨w.heap.size, 2, none⟩ = some (.slice As N.spurs.length cs) ∧ W.cell? ⟨w.heap.size, 3, none⟩ = some (.slice Ar N.robots.length cr) ∧ W.cell? ⟨w.heap.size, 4, none⟩ = some (Iv N.queue) ∧ W.cell? ⟨w.heap.size, 5, none⟩ = some (Iv N.aging) ∧ W.cell? ⟨w.heap.size, 6, none⟩ = some (Iv N.detours) ∧ W.cell? ⟨w.heap.size, 7, none⟩ = some (Iv N.patience)) (first | exact box8 (HWc.out _ (by repeat (first | assumption | (with_reducible exact Below.refl _ _) | (with_reducible refine Below.drew ?_) | (with_reducible refine below_push ?_ _) | (with_reducible refine below_put ?_ (by first | exact Nat.le_refl _ | omega)))))) (first | (go_at_call 6; refine (CC2.out _ (by repeat (first | assumption | (with_reducible exact Below.refl _ _) | (with_reducible refine Below.drew ?_) | (with_reducible refine below_push ?_ _) | (with_reducible refine below_put ?_ (by first | exact Nat.le_refl _ | omega))))).mono ?_; rintro e w2 ⟨rfl, hbw2, hbl2⟩; have hs2w := hbw2.size; have hY2 : w2.heap[wc.heap.size]? = some (.cells zeroCap 78 (0, 0)) := (hbl2.block _ (by simp)).trans (heap_alloc_new wc _); have HY2 := Lib.hid hY2; obtain ⟨z20, z21, z22, z23, f20, f21, f22, f23⟩ := row4_c hY2; clear hY2; have hs2 := hbl2.size) | (go_at_call 6; refine (CC2.out _ (by repeat (first | assumption | (with_reducible exact Below.refl _ _) | (with_reducible refine Below.drew ?_) | (with_reducible refine below_push ?_ _) | (with_reducible refine below_put ?_ (by first | exact Nat.le_refl _ | omega))))).mono ?_; rintro e w2 ⟨rfl, hbw2, hbl2⟩; have hs2w := hbw2.size) | (go_at_call 61; refine (CS2.out _ _ (by repeat (first | assumption | (with_reducible exact Below.refl _ _) | (with_reducible refine Below.drew ?_) | (with_reducible refine below_push ?_ _) | (with_reducible refine below_put ?_ (by first | exact Nat.le_refl _ | omega)))) (by first | exact heap_alloc_new _ _ | exact heap_alloc2_old _ _ _ | exact heap_alloc2_new _ _ _)).mono ?_; rintro e w3 ⟨rfl, hbw3, hbl3⟩; have hY3 : w3.heap[wc.heap.size]? = some (.cells zeroCap 78 (0, 0)) := (hbl3.block _ (by simp at hs2 ⊢; omega)).trans ((heap_alloc_old w2 _ (block_lt HY2.out)).trans HY2.out); have HY3 := Lib.hid hY3; obtain ⟨z30, z31, z32, z33, f30, f31, f32, f33⟩ := row4_c hY3; clear hY3 z20 z21 z22 z23 f20 f21 f22 f23) | (go_at_call 61; refine (CS2.out _ _ (by repeat (first | assumption | (with_reducible exact Below.refl _ _) | (with_reducible refine Below.drew ?_) | (with_reducible refine below_push ?_ _) | (with_reducible refine below_put ?_ (by first | exact Nat.le_refl _ | omega)))) (by first | exact heap_alloc_new _ _ | exact heap_alloc2_old _ _ _ | exact heap_alloc2_new _ _ _)).mono ?_; rintro e w3 ⟨rfl, hbw3, hbl3⟩; have hY3 : w3.heap[w2.heap.size]? = some (.cells zeroCap 78 (0, 0)) := (hbl3.block _ (by simp <;> omega)).trans (heap_alloc2_old _ _ _); have HY3 := Lib.hid hY3; obtain ⟨z30, z31, z32, z33, f30, f31, f32, f33⟩ := row4_c hY3; clear hY3) | (go_at_call 61; refine (CS2.out _ _ (by repeat (first | assumption | (with_reducible exact Below.refl _ _) | (with_reducible refine Below.drew ?_) | (with_reducible refine below_push ?_ _) | (with_reducible refine below_put ?_ (by first | exact Nat.le_refl _ | omega)))) (by first | exact heap_alloc_new _ _ | exact heap_alloc2_old _ _ _ | exact heap_alloc2_new _ _ _)).mono ?_; rintro e w3 ⟨rfl, hbw3, hbl3⟩; have hY3 : w3.heap[w2.heap.size + 1]? = some (.cells zeroCap 78 (0, 0)) := (hbl3.block _ (by simp <;> omega)).trans (heap_alloc2_new _ _ _); have HY3 := Lib.hid hY3; obtain ⟨z30, z31, z32, z33, f30, f31, f32, f33⟩ := row4_c hY3; clear hY3) | (go_at_call 61; refine (CS2.out _ _ (by repeat (first | assumption | (with_reducible exact Below.refl _ _) | (with_reducible refine Below.drew ?_) | (with_reducible refine below_push ?_ _) | (with_reducible refine below_put ?_ (by first | exact Nat.le_refl _ | omega)))) (by first | exact heap_alloc_new _ _ | exact heap_alloc2_old _ _ _ | exact heap_alloc2_new _ _ _)).mono ?_; rintro e w3 ⟨rfl, hbw3, hbl3⟩))
      all_goals
        go_wp2_with fail
        go_meet
        case rel =>
          refine ⟨_, rfl, ?_, ?_, ?_⟩
          · first
            | (with_reducible exact Nat.le_refl _)
            | (with_reducible exact hbw3.size)
            | omega
          · first
            | (with_reducible exact Lib.hid (heap_alloc_new w3 _))
            | (with_reducible exact Lib.hid (set4_at HY3.out))
          · first
            | (with_reducible exact below_push hbw3 _)
            | (with_reducible exact below_set4 hbw3 (Nat.le_refl _))
            | (with_reducible exact below_set4 hbw3 hs2w)
            | (with_reducible exact below_set4 hbw3 (Nat.le_succ_of_le hs2w))
    case rest =>
      obtain ⟨Y, rfl, hY, HYc, hbd⟩ := hcut
      have HBd := Lib.hid (HBc.out.trans (hbd.mono HBc.out.size))
      have HPd : Hid (wc.heap[w.heap.size + 1]? = some (.cells zeroCap 78 (0, 0))) := Lib.hid ((hbd.block _ (by omega)).trans HPc.out)
      have HOd := Lib.hid (HOc2.out _ hbd)
      have hPY : w.heap.size + 1 ≠ Y := by omega
      have HYb : Hid (Y < wc.heap.size) := Lib.hid (block_lt HYc.out)
      obtain ⟨y0, y1, y2, y3, _, _, _, yf3⟩ := row4_c HYc.out
      have hwY : w.heap.size ≤ Y := by omega
      have HSet1 := Lib.hid (fun v => below_put (i := 3) (v := v) HBd.out hwY)
      have HSet2 := Lib.hid (fun v u => below_put (i := 3) (v := u) (HSet1.out v) hwY)
      have HPs1 := Lib.hid (fun v => (Below.heap_setCell wc ⟨Y, 3, none⟩ v (w.heap.size + 1) hPY).trans HPd.out)
      have HPs2 := Lib.hid (fun v u => (Below.heap_setCell (wc.setCell ⟨Y, 3, none⟩ v) ⟨Y, 3, none⟩ u (w.heap.size + 1) hPY).trans (HPs1.out v))
      clear x0 x1 x2 x3 x4 x5 x6 x7
      have HOd2 := HOd.out
      rw [← HGL.out] at HOd2
      have HFin1 : Hid (∀ v a b c d, Below w.heap.size w (((((wc.setCell ⟨Y, 3, none⟩ v).setCell ⟨w.heap.size + 1, 0, none⟩ a).setCell ⟨w.heap.size + 1, 1, none⟩ b).setCell ⟨w.heap.size + 1, 2, none⟩ c).setCell ⟨w.heap.size + 1, 3, none⟩ d) ∧ (((((wc.setCell ⟨Y, 3, none⟩ v).setCell ⟨w.heap.size + 1, 0, none⟩ a).setCell ⟨w.heap.size + 1, 1, none⟩ b).setCell ⟨w.heap.size + 1, 2, none⟩ c).setCell ⟨w.heap.size + 1, 3, none⟩ d).ownsRow w.heap.size 3 1 (.slice Ac gl cc) gl ((girN N).map Iv)) := Lib.hid (fun v a b c d => ⟨below_set4 (HSet1.out v) (by omega), own_other (own_other (ownsRow_base HOd2 HB1.out.size) HYc.out (by decide) (fun b hb => Below.heap_setCell _ _ _ _ hb)) (HPs1.out v) (by decide) (fun b hb => heap_set4 hb)⟩)
      have HFin2 : Hid (∀ v u a b c d, Below w.heap.size w ((((((wc.setCell ⟨Y, 3, none⟩ v).setCell ⟨Y, 3, none⟩ u).setCell ⟨w.heap.size + 1, 0, none⟩ a).setCell ⟨w.heap.size + 1, 1, none⟩ b).setCell ⟨w.heap.size + 1, 2, none⟩ c).setCell ⟨w.heap.size + 1, 3, none⟩ d) ∧ ((((((wc.setCell ⟨Y, 3, none⟩ v).setCell ⟨Y, 3, none⟩ u).setCell ⟨w.heap.size + 1, 0, none⟩ a).setCell ⟨w.heap.size + 1, 1, none⟩ b).setCell ⟨w.heap.size + 1, 2, none⟩ c).setCell ⟨w.heap.size + 1, 3, none⟩ d).ownsRow w.heap.size 3 1 (.slice Ac gl cc) gl ((girN N).map Iv)) := Lib.hid (fun v u a b c d => ⟨below_set4 (HSet2.out v u) (by omega), own_other (own_other (own_other (ownsRow_base HOd2 HB1.out.size) HYc.out (by decide) (fun b hb => Below.heap_setCell _ _ _ _ hb)) (set1_at HYc.out) (by decide) (fun b hb => Below.heap_setCell _ _ _ _ hb)) (HPs2.out v u) (by decide) (fun b hb => heap_set4 hb)⟩)
      obtain ⟨sl, hsl0⟩ : ∃ sl, sl = slotsN N := ⟨_, rfl⟩
      rw [← hsl0] at hsl y2
      have HSL := Lib.hid hsl0
      clear hsl0 HSet1 HSet2 HOd HYc HOd2
      obtain ⟨p0, p1, p2, p3, pf0, pf1, pf2, pf3⟩ := row4_c HPd.out
      have hYP : Y ≠ w.heap.size + 1 := fun e => hPY e.symm
      by_cases hg0 : 0 < gl
      · have hd : decide ((0 : Int) < (gl : Int)) = true := by simp; exact hg0
        have HM1 : Hid (sl < (gl : Int) - 1 → capN gl sl = sl) := Lib.hid (fun h => by unfold capN; rw [if_pos hg0]; omega)
        have HM2 : Hid ((gl : Int) - 1 ≤ sl → capN gl sl = (gl : Int) - 1) := Lib.hid (fun h => by unfold capN; rw [if_pos hg0]; omega)
        go_wp2
        · have e := HM1.out (by assumption)
          refine bodyPost_ret (fleet_ret _ (set4_at (HPs2.out _ _)) rfl _ _ rfl rfl) rfl ?_
          refine ⟨.slice Ac gl cc, ?_, by rw [← HGL.out]; exact (HFin2.out _ _ _ _ _ _).2, (HFin2.out _ _ _ _ _ _).1⟩
          rw [← HSL.out, ← HGL.out, e]
          rfl
        · have e := HM2.out (by assumption)
          refine bodyPost_ret (fleet_ret _ (set4_at (HPs2.out _ _)) rfl _ _ rfl rfl) rfl ?_
          refine ⟨.slice Ac gl cc, ?_, by rw [← HGL.out]; exact (HFin2.out _ _ _ _ _ _).2, (HFin2.out _ _ _ _ _ _).1⟩
          rw [← HSL.out, ← HGL.out, e]
          rfl
      · have hd : decide ((0 : Int) < (gl : Int)) = false := by simp; omega
        have e : capN gl sl = sl := by unfold capN; rw [if_neg hg0]
        have HM := Lib.hid e
        clear e
        go_wp2
        refine bodyPost_ret (fleet_ret _ (set4_at (HPs1.out _)) rfl _ _ rfl rfl) rfl ?_
        refine ⟨.slice Ac gl cc, ?_, by rw [← HGL.out]; exact (HFin1.out _ _ _ _ _).2, (HFin1.out _ _ _ _ _).1⟩
        rw [← HSL.out, ← HGL.out, HM.out]
        rfl
end Go.Proofs.YtpdjcccpohnmcaaDoor
