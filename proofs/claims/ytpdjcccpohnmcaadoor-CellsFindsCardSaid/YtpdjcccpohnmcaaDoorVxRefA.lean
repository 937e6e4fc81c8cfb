/- Contracts of the reference's configured and blocks of layer 3, for any network. -/
import Derived.Test.YtpdjcccpohnmcaaDoorVxSpec
import Derived.Test.YtpdjcccpohnmcaaDoorNtParts
namespace Go.Proofs.YtpdjcccpohnmcaaDoor
open Go Go.RowKit Fl

set_option maxRecDepth 100000 in
set_option maxHeartbeats 2000000 in
theorem configuredX_c (q a d p : Int) (w : World) :
    Calls Tryd.prog 53 #[.agg #[Iv q, Iv a, Iv d, Iv p]] w (Exact (ConfOk q a d p) w) := by
  by_cases h : ConfOk q a d p
  · refine (configured_c q a d p w h).mono ?_
    rintro e w' ⟨rfl, hb⟩
    exact .yes h hb
  · have HN := Lib.hid h
    have hc : q < 1 ∨ (1 ≤ q ∧ 8 < q) ∨ (1 ≤ q ∧ q ≤ 8 ∧ a < 0) ∨ (1 ≤ q ∧ q ≤ 8 ∧ 0 ≤ a ∧ 4 < a) ∨ (1 ≤ q ∧ q ≤ 8 ∧ 0 ≤ a ∧ a ≤ 4 ∧ d < 0) ∨ (1 ≤ q ∧ q ≤ 8 ∧ 0 ≤ a ∧ a ≤ 4 ∧ 0 ≤ d ∧ 3 < d) ∨ (1 ≤ q ∧ q ≤ 8 ∧ 0 ≤ a ∧ a ≤ 4 ∧ 0 ≤ d ∧ d ≤ 3 ∧ p < 1) ∨ (1 ≤ q ∧ q ≤ 8 ∧ 0 ≤ a ∧ a ≤ 4 ∧ 0 ≤ d ∧ d ≤ 3 ∧ 1 ≤ p ∧ 16 < p) := by
      by_cases a1 : 1 ≤ q ∧ q ≤ 8
      · by_cases a2 : 0 ≤ a ∧ a ≤ 4
        · by_cases a3 : 0 ≤ d ∧ d ≤ 3
          · by_cases a4 : 1 ≤ p ∧ p ≤ 16
            · exact absurd ⟨a1, a2, a3, a4⟩ h
            · omega
          · omega
        · omega
      · omega
    have hb0 := Lib.hid ((Below.refl w.heap.size w).alloc (Nat.le_refl _) (.cells #[Iv q, Iv a, Iv d, Iv p] 27))
    clear h
    rcases hc with h | ⟨h1, h⟩ | ⟨h1, h2, h⟩ | ⟨h1, h2, h3, h⟩ | ⟨h1, h2, h3, h4, h⟩ | ⟨h1, h2, h3, h4, h5, h⟩ | ⟨h1, h2, h3, h4, h5, h6, h⟩ | ⟨h1, h2, h3, h4, h5, h6, h7, h⟩
    all_goals
      have hn := Int.not_le.2 h
      have hd := decide_eq_false hn
      clear h
      go_enter Tryd.func53, Tryd.ntmps53
      go_wp2
      go_ret
      exact .no HN.out hb0.out
set_option maxRecDepth 100000 in
set_option maxHeartbeats 4000000 in
theorem blocksX_c (Ab An As Ar : Option Addr) (cb cn cs cr : Nat) (N : NetD) (w : World) (hN : NetAt w Ab An As Ar N) (hl : NetLen N) :
    Calls Tryd.prog 51 #[.agg #[.slice Ab N.blocks.length cb, .slice An N.next.length cn, .slice As N.spurs.length cs, .slice Ar N.robots.length cr, Iv N.queue, Iv N.aging, Iv N.detours, Iv N.patience]] w (Exact (GridOk N) w) := by
  have hB0 : Below w.heap.size w (w.alloc (.cells (netCells Ab An As Ar cb cn cs cr N) 29)) := (Below.refl _ _).alloc (Nat.le_refl _) _
  have HX := Lib.hid (boxAt_of (heap_alloc_new w (.cells (netCells Ab An As Ar cb cn cs cr N) 29)))
  have hsz0 : w.heap.size < (w.alloc (.cells (netCells Ab An As Ar cb cn cs cr N) 29)).heap.size := by simp
  obtain ⟨y0, y1, y2, y3, y4, y5, y6, y7⟩ := boxAt_of (heap_alloc_new w (.cells (netCells Ab An As Ar cb cn cs cr N) 29))
  by_cases hs : (1 ≤ N.blocks.length ∧ N.blocks.length ≤ 24) ∧ N.next.length = N.blocks.length
  · have HB0 := Lib.hid hB0
    have HNx := Lib.hid hN
    have HLx := Lib.hid hl
    obtain ⟨⟨h1, h2⟩, h3⟩ := hs
    have hne : ((N.next.length : Int) != (N.blocks.length : Int)) = false := by rw [h3]; simp
    have HL := Lib.hid h3
    have h1i : ¬ (N.blocks.length : Int) < 1 := by omega
    have h2i : ¬ (24 : Int) < (N.blocks.length : Int) := by omega
    clear hN hl hB0 h3
    go_enter Tryd.func51, Tryd.ntmps51
    go_wp2
    generalize w.alloc (.cells (netCells Ab An As Ar cb cn cs cr N) 29) = w0 at *
    clear y0 y1 y2 y3 y4 y5 y6 y7 hne
    go_loopw [3] (fun i wr => ∃ (k : Nat), i = .int .i64 k ∧ k ≤ N.blocks.length ∧ Hid (∀ i (h : i < N.blocks.length) (h' : i < N.next.length), i < k → PlaceFit N.blocks[i] ∧ RowFit N.blocks.length i N.next[i]) ∧ Below w0.heap.size w0 wr) (fun i _ => N.blocks.length - (intOf i).toNat)
    case atStart => exact ⟨0, rfl, Nat.zero_le _, Lib.hid (fun i h h' hj => by omega), Below.refl _ _⟩
    case round =>
      obtain ⟨k, rfl, hk, HF, hb⟩ := hrel
      have hbw : Below w.heap.size w wr := HB0.out.trans (hb.mono (Nat.le_of_lt hsz0))
      obtain ⟨x0, x1, x2, x3, x4, x5, x6, x7⟩ := HX.out.keep hsz0 hb
      clear x2 x3 x4 x5 x6 x7
      by_cases hlt : k < N.blocks.length
      · have hltn : k < N.next.length := by have := HL.out; omega
        have hlti : (k : Int) < (N.blocks.length : Int) := by omega
        obtain ⟨bb, ob, rfl, hbb, hs⟩ := HNx.out.blocks.block hlt
        obtain ⟨c0, c1, c2⟩ := hs.keep hbb hbw
        obtain ⟨bn, on, A1, cc1, rfl, e1, hr⟩ := HNx.out.next.one hltn
        have hbn : bn < w.heap.size := World.block_lt_of_cell? _ _ e1
        have hrl := HLx.out.rows _ (List.getElem_mem hltn)
        have HW := Lib.hid (fun W (hW : Below w0.heap.size w0 W) => (HX.out.keep hsz0 hW))
        have HE1 : Hid (∀ W, Below w.heap.size w W → W.cell? ⟨bn, on + k, none⟩ = some (.slice A1 N.next[k].length cc1) ∧ Holds W A1 (N.next[k].map Iv)) := Lib.hid (fun W hW => ⟨(hW.cell (p := ⟨bn, on + k, none⟩) hbn).trans e1, hr.keep hW⟩)
        have e1a : ∀ o, (wr.alloc o).cell? ⟨bn, on + k, none⟩ = some (.slice A1 N.next[k].length cc1) := fun o => (HE1.out _ (hbw.alloc hbw.size o)).1
        have x1a : ∀ o, (wr.alloc o).cell? ⟨w.heap.size, 1, none⟩ = some (.slice (some ⟨bn, on, none⟩) N.next.length cn) := fun o => (HW.out _ (hb.alloc hb.size o)).c1
        have HBad : Hid (¬ (PlaceFit N.blocks[k] ∧ RowFit N.blocks.length k N.next[k]) → ¬ GridOk N) := Lib.hid (fun h hg => h ⟨hg.places _ (List.getElem_mem hlt), hg.rows k hltn⟩)
        have HGood : Hid (PlaceFit N.blocks[k] ∧ RowFit N.blocks.length k N.next[k] → ∀ i (h : i < N.blocks.length) (h' : i < N.next.length), i < k + 1 → PlaceFit N.blocks[i] ∧ RowFit N.blocks.length i N.next[i]) := Lib.hid (fun hf i h h' hj => by
          rcases Nat.lt_succ_iff_lt_or_eq.1 hj with h2 | rfl
          · exact HF.out i h h' h2
          · exact hf)
        clear hs hr e1 HF
        generalize N.next[k] = r at *
        generalize N.blocks[k] = x at *
        obtain ⟨nm, xx, yy⟩ := x
        simp only at c0 c1 c2
        have hbwN := Lib.hid hbw
        have HBa : Hid (∀ ob, Below w.heap.size w (wr.alloc ob)) := Lib.hid (fun ob => hbw.alloc hbw.size ob)
        by_cases hp : ((-9999 ≤ xx ∧ xx ≤ 9999) ∧ (-9999 ≤ yy ∧ yy ≤ 9999)) ∧ r.length ≤ 4
        · obtain ⟨⟨⟨p1, p2⟩, p3, p4⟩, hr4⟩ := hp
          have HPl : Hid (PlaceFit ⟨nm, xx, yy⟩) := Lib.hid ⟨⟨p1, p2⟩, ⟨p3, p4⟩⟩
          go_wp2
          have hb2 := hb.alloc hb.size (.cells #[Sv nm, Iv xx, Iv yy] 73)
          have hbw2 := hbw.alloc hbw.size (.cells #[Sv nm, Iv xx, Iv yy] 73)
          clear e1a x1a c0 c1 c2 hb hbw x0 x1 HBa hbwN
          generalize wr.alloc (.cells #[Sv nm, Iv xx, Iv yy] 73) = wx at *
          go_loop [5] (fun i => ∃ (j : Nat), i = .int .i64 j ∧ j ≤ r.length ∧ Hid (PreRow N.blocks.length k r j)) (fun i => r.length - (intOf i).toNat)
          case atStart => exact ⟨0, rfl, Nat.zero_le _, Lib.hid (PreRow.zero _ _ _)⟩
          case round =>
            obtain ⟨j, rfl, hj, HPr⟩ := hrel
            obtain ⟨x0, x1, x2, x3, x4, x5, x6, x7⟩ := HW.out _ hb2
            clear x2 x3 x4 x5 x6 x7
            obtain ⟨e1, hr⟩ := HE1.out _ hbw2
            by_cases hjt : j < r.length
            · obtain ⟨br, or_, rfl, e2⟩ := hr.iv hjt
              have hjti : (j : Int) < (r.length : Int) := by omega
              by_cases hok : (0 ≤ r[j] ∧ r[j] < (N.blocks.length : Int) ∧ r[j] ≠ (k : Int)) ∧ ∀ (h0 : 0 < j), r[j - 1]'(by omega) < r[j]
              · obtain ⟨⟨q0, q1, q2⟩, q3⟩ := hok
                have HPr2 := Lib.hid (HPr.out.step hjt ⟨q0, q1, q2⟩ q3)
                have q4 : (r[j] == (k : Int)) = false := by simpa using q2
                clear q2 HPr
                by_cases hj0 : j = 0
                · subst hj0
                  rw [Nat.add_zero] at e2
                  clear hr q3
                  generalize r[0] = x at *
                  go_wp2
                  go_round
                  case rel => exact ⟨1, by go_num, by omega, HPr2⟩
                  case measure => simp [intOf]; omega
                · have hjp : j - 1 < r.length := by omega
                  obtain ⟨b3, o3, hA3, e3⟩ := hr.iv hjp
                  injection hA3 with h
                  injection h with g1 g2
                  subst g1 g2
                  have hpos : 0 < j := by omega
                  have hlo := q3 hpos
                  have hcast : (j : Int) - 1 = ((j - 1 : Nat) : Int) := by omega
                  have hd4 : decide (r[j] ≤ r[j - 1]) = false := by rw [decide_eq_false_iff_not]; omega
                  clear hr hlo q3
                  generalize r[j] = x at *
                  generalize r[j - 1] = y at *
                  go_wp2
                  go_round
                  case rel => exact ⟨j + 1, by go_num, by omega, HPr2⟩
                  case measure => simp [intOf]; omega
              · have HB : Hid (¬ GridOk N) := Lib.hid (HBad.out (fun h => hok (h.2.step hjt)))
                have hcs : r[j] < 0 ∨ (0 ≤ r[j] ∧ (N.blocks.length : Int) ≤ r[j]) ∨ (0 ≤ r[j] ∧ ¬ (N.blocks.length : Int) ≤ r[j] ∧ r[j] = (k : Int)) ∨ ((0 ≤ r[j] ∧ ¬ (N.blocks.length : Int) ≤ r[j] ∧ r[j] ≠ (k : Int)) ∧ ∃ h0 : 0 < j, r[j] ≤ r[j - 1]'(by omega)) := by
                  by_cases a1 : 0 ≤ r[j]
                  · by_cases a2 : (N.blocks.length : Int) ≤ r[j]
                    · omega
                    · by_cases a3 : r[j] = (k : Int)
                      · exact .inr (.inr (.inl ⟨a1, a2, a3⟩))
                      · refine .inr (.inr (.inr ⟨⟨a1, a2, a3⟩, ?_⟩))
                        by_cases a4 : 0 < j
                        · refine ⟨a4, ?_⟩
                          by_cases a5 : r[j] ≤ r[j - 1]'(by omega)
                          · exact a5
                          · exact absurd ⟨⟨a1, by omega, a3⟩, fun _ => by omega⟩ hok
                        · exact absurd ⟨⟨a1, by omega, a3⟩, fun h => absurd h a4⟩ hok
                  · omega
                clear hok HPr HBad HGood
                rcases hcs with q | ⟨q0, q⟩ | ⟨q0, q1, q⟩ | ⟨⟨q0, q1, q2⟩, hpos, q⟩
                · clear hr
                  generalize r[j] = x at *
                  go_wp2
                  go_ret
                  exact .no HB.out hbw2
                · clear hr
                  generalize r[j] = x at *
                  have q0' : ¬ x < 0 := by omega
                  go_wp2
                  go_ret
                  exact .no HB.out hbw2
                · clear hr
                  have q2 : (r[j] == (k : Int)) = true := by simpa using q
                  have q0' : ¬ r[j] < 0 := by omega
                  clear q
                  generalize r[j] = x at *
                  go_wp2
                  go_ret
                  exact .no HB.out hbw2
                · have hjp : j - 1 < r.length := by omega
                  obtain ⟨b3, o3, hA3, e3⟩ := hr.iv hjp
                  injection hA3 with h
                  injection h with g1 g2
                  subst g1 g2
                  have hcast : (j : Int) - 1 = ((j - 1 : Nat) : Int) := by omega
                  have hd4 : decide (r[j] ≤ r[j - 1]) = true := by rw [decide_eq_true_iff]; exact q
                  have q4 : (r[j] == (k : Int)) = false := by simpa using q2
                  have hposi : (0 : Int) < (j : Int) := by omega
                  clear hr q q2
                  generalize r[j] = x at *
                  generalize r[j - 1] = y at *
                  go_wp2
                  go_ret
                  exact .no HB.out hbw2
            · obtain rfl : j = r.length := by omega
              have HF2 := Lib.hid (HGood.out ⟨HPl.out, HPr.out.all hr4⟩)
              clear hr HGood HBad HPr HPl
              go_wp2
              go_roundw
              case rel => exact ⟨k + 1, by go_num, by omega, HF2, hb2⟩
              case measure => simp [intOf]; omega
        · have HB : Hid (¬ GridOk N) := Lib.hid (HBad.out (fun h => hp ⟨⟨h.1.x, h.1.y⟩, h.2.few⟩))
          have hcs : xx < -9999 ∨ (¬ xx < -9999 ∧ 9999 < xx) ∨ (¬ xx < -9999 ∧ ¬ 9999 < xx ∧ yy < -9999) ∨ (¬ xx < -9999 ∧ ¬ 9999 < xx ∧ ¬ yy < -9999 ∧ 9999 < yy) ∨ (¬ xx < -9999 ∧ ¬ 9999 < xx ∧ ¬ yy < -9999 ∧ ¬ 9999 < yy ∧ (4 : Int) < (r.length : Int)) := by omega
          clear hp HBad HGood hb hbw
          rcases hcs with h | ⟨p1, h⟩ | ⟨p1, p2, h⟩ | ⟨p1, p2, p3, h⟩ | ⟨p1, p2, p3, p4, h⟩
          all_goals
            go_wp2
            go_ret
            exact .no HB.out (HBa.out _)
      · have HG : Hid (GridOk N) := Lib.hid (GridOk.of ⟨h1, h2⟩ HL.out (fun i h h' => HF.out i h h' (by omega)))
        have hkn : ¬ (k : Int) < (N.blocks.length : Int) := by omega
        go_wp2
        go_ret
        exact .yes HG.out hbw
  · have HNo2 : Hid (¬ GridOk N) := Lib.hid (fun h => hs ⟨h.size, h.lanes⟩)
    have HB0 := Lib.hid hB0
    have hc : N.blocks.length < 1 ∨ (¬ N.blocks.length < 1 ∧ 24 < N.blocks.length) ∨ (¬ N.blocks.length < 1 ∧ ¬ 24 < N.blocks.length ∧ N.next.length ≠ N.blocks.length) := by omega
    clear hs hB0
    rcases hc with h | ⟨h1, h⟩ | ⟨h1, h2, h⟩
    · have hi : (N.blocks.length : Int) < 1 := by omega
      go_enter Tryd.func51, Tryd.ntmps51
      go_wp2
      go_ret
      exact .no HNo2.out HB0.out
    · have hi : ¬ (N.blocks.length : Int) < 1 := by omega
      have hi2 : (24 : Int) < (N.blocks.length : Int) := by omega
      go_enter Tryd.func51, Tryd.ntmps51
      go_wp2
      go_ret
      exact .no HNo2.out HB0.out
    · have hi : ¬ (N.blocks.length : Int) < 1 := by omega
      have hi2 : ¬ (24 : Int) < (N.blocks.length : Int) := by omega
      have hne : ((N.next.length : Int) != (N.blocks.length : Int)) = true := by rw [bne_iff_ne]; omega
      go_enter Tryd.func51, Tryd.ntmps51
      go_wp2
      go_ret
      exact .no HNo2.out HB0.out
end Go.Proofs.YtpdjcccpohnmcaaDoor
