/- Joined texts. -/
import Derived.Test.YtmdnkpiihhaoeaaMzAF
import Derived.Test.YtmdnkpiihhaoeaaMzBC
import Derived.Test.YtmdnkpiihhaoeaaMzBD
import Derived.Test.YtmdnkpiihhaoeaaMzAD
import Derived.Test.YtmdnkpiihhaoeaaMzAC
import Derived.IntWalk
namespace Go.Proofs.Ytmdnkpiihhaoeaa
open Go Go.RowKit Fl

open Classical in
/-- The first error of a network and a cell. -/
noncomputable def cellE (N : NetD) (c : Int) : Int := if NetOk N then rangeE N c else 20
theorem cellE_ok {N : NetD} {c : Int} (h : NetOk N) (hc : inN N c) : cellE N c = 0 := by unfold cellE; rw [if_pos h]; exact if_pos hc
theorem cellE_out {N : NetD} {c : Int} (h : NetOk N) (hc : ¬ inN N c) : cellE N c = 19 := by unfold cellE; rw [if_pos h]; exact if_neg hc
theorem cellE_no {N : NetD} {c : Int} (h : ¬ NetOk N) : cellE N c = 20 := by unfold cellE; rw [if_neg h]
theorem cellE_zero {N : NetD} {c : Int} (h : cellE N c = 0) : NetOk N ∧ inN N c := by
  by_cases h1 : NetOk N
  · by_cases h2 : inN N c
    · exact ⟨h1, h2⟩
    · rw [cellE_out h1 h2] at h; omega
  · rw [cellE_no h1] at h; omega
set_option maxHeartbeats 4000000 in
theorem count_none (Ab An As Ar : Option Addr) (cb cn cs cr : Nat) (N : NetD) (w : World) (hN : NetAt w Ab An As Ar N) (hl : NetLen N) (hok : ¬ NetOk N) (hcr : N.robots.length ≤ cr) :
    Calls Try.prog 46 #[.agg #[.slice Ab N.blocks.length cb, .slice An N.next.length cn, .slice As N.spurs.length cs, .slice Ar N.robots.length cr, Iv N.queue, Iv N.aging, Iv N.detours, Iv N.patience]] w fun e w' => e = .returned (.tuple #[.int .i64 0, .int .i64 20]) ∧ Below w.heap.size w w' := by
  have CV := Lib.hid (fun W (hW : Below w.heap.size w W) => netValidX_c Ab An As Ar cb cn cs cr N W (hN.keep hW) hl hcr)
  have HNo := Lib.hid hok
  have hB0 := Lib.hid ((Below.refl w.heap.size w).alloc (Nat.le_refl _) (.cells (netCells Ab An As Ar cb cn cs cr N) 29))
  have hsz0 : w.heap.size < (w.alloc (.cells (netCells Ab An As Ar cb cn cs cr N) 29)).heap.size := by simp
  obtain ⟨x0, x1, x2, x3, x4, x5, x6, x7⟩ := boxAt_of (heap_alloc_new w (.cells (netCells Ab An As Ar cb cn cs cr N) 29))
  clear hN hok hl
  go_enter Try.func46, Try.ntmps46
  go_wp2_with fail
  generalize w.alloc (.cells (netCells Ab An As Ar cb cn cs cr N) 29) = w0 at *
  refine (CV.out _ hB0.out).mono ?_
  intro e w1 hE
  obtain ⟨⟨hg, rfl⟩ | ⟨_, rfl⟩, hb1⟩ := hE.use
  · exact absurd hg HNo.out
  have HB1 := Lib.hid (hB0.out.trans (hb1.mono (Nat.le_of_lt hsz0)))
  clear x0 x1 x2 x3 x4 x5 x6 x7 hb1 CV hE
  go_wp2
  go_ret2
  exact ⟨rfl, HB1.out⟩
open Classical in
noncomputable def placeX (N : NetD) (c : Int) : Int × Int := if NetOk N then placeN N c else (0, 0)
set_option maxHeartbeats 4000000 in
theorem placeX_c (Ab An As Ar : Option Addr) (cb cn cs cr : Nat) (N : NetD) (c : Int) (w : World) (hN : NetAt w Ab An As Ar N) (hl : NetLen N) (hcr : N.robots.length ≤ cr) :
    Calls Try.prog 28 #[.agg #[.slice Ab N.blocks.length cb, .slice An N.next.length cn, .slice As N.spurs.length cs, .slice Ar N.robots.length cr, Iv N.queue, Iv N.aging, Iv N.detours, Iv N.patience], .int .i64 c] w fun e w' => e = .returned (.tuple #[.int .i64 (placeX N c).1, .int .i64 (placeX N c).2, .int .i64 (cellE N c)]) ∧ Below w.heap.size w w' := by
  by_cases hok : NetOk N
  · have h := place_c Ab An As Ar cb cn cs cr N c w hN hok hcr
    have e1 : placeX N c = placeN N c := if_pos hok
    have e2 : cellE N c = rangeE N c := if_pos hok
    rwa [e1, e2]
  · have e1 : placeX N c = (0, 0) := if_neg hok
    rw [e1, cellE_no hok]
    have CC := Lib.hid (fun W (hW : Below w.heap.size w W) => count_none Ab An As Ar cb cn cs cr N W (hN.keep hW) hl hok hcr)
    have hB0 := Lib.hid ((Below.refl w.heap.size w).alloc (Nat.le_refl _) (.cells (netCells Ab An As Ar cb cn cs cr N) 29))
    have hsz0 : w.heap.size < (w.alloc (.cells (netCells Ab An As Ar cb cn cs cr N) 29)).heap.size := by simp
    obtain ⟨x0, x1, x2, x3, x4, x5, x6, x7⟩ := boxAt_of (heap_alloc_new w (.cells (netCells Ab An As Ar cb cn cs cr N) 29))
    clear hN hok hcr hl e1
    go_enter Try.func28, Try.ntmps28
    go_wp2_with fail
    generalize w.alloc (.cells (netCells Ab An As Ar cb cn cs cr N) 29) = w0 at *
    refine (CC.out _ hB0.out).mono ?_
    rintro e w1 ⟨rfl, hb1⟩
    have HB1 := Lib.hid (hB0.out.trans (hb1.mono (Nat.le_of_lt hsz0)))
    clear x0 x1 x2 x3 x4 x5 x6 x7 hb1 CC
    go_wp2
    go_ret3
    exact ⟨rfl, HB1.out⟩
open Classical in
/-- The first error of a network and a spur. -/
noncomputable def spurE (N : NetD) (k : Int) : Int := if NetOk N then (if 0 ≤ k ∧ k < N.spurs.length then 0 else 19) else 20
theorem spurE_ok {N : NetD} {k : Int} (h : NetOk N) (hk : 0 ≤ k ∧ k < N.spurs.length) : spurE N k = 0 := by unfold spurE; rw [if_pos h, if_pos hk]
theorem spurE_out {N : NetD} {k : Int} (h : NetOk N) (hk : ¬ (0 ≤ k ∧ k < N.spurs.length)) : spurE N k = 19 := by unfold spurE; rw [if_pos h, if_neg hk]
theorem spurE_no {N : NetD} {k : Int} (h : ¬ NetOk N) : spurE N k = 20 := by unfold spurE; rw [if_neg h]
set_option maxHeartbeats 4000000 in
theorem next_bad (Ab An As Ar : Option Addr) (cb cn cs cr : Nat) (c : Int) (N : NetD) (w : World) (hN : NetAt w Ab An As Ar N) (hl : NetLen N) (hcr : N.robots.length ≤ cr) (hz : cellE N c ≠ 0) :
    Calls Try.prog 12 #[.agg #[.slice Ab N.blocks.length cb, .slice An N.next.length cn, .slice As N.spurs.length cs, .slice Ar N.robots.length cr, Iv N.queue, Iv N.aging, Iv N.detours, Iv N.patience], .int .i64 c] w fun e w' => e = .returned (.tuple #[.slice none 0 0, .int .i64 (cellE N c)]) ∧ Below w.heap.size w w' := by
  have CP := Lib.hid (fun W (hW : Below w.heap.size w W) => placeX_c Ab An As Ar cb cn cs cr N c W (hN.keep hW) hl hcr)
  have hB0 := Lib.hid ((Below.refl w.heap.size w).alloc (Nat.le_refl _) (.cells (netCells Ab An As Ar cb cn cs cr N) 29))
  have hsz0 : w.heap.size < (w.alloc (.cells (netCells Ab An As Ar cb cn cs cr N) 29)).heap.size := by simp
  obtain ⟨x0, x1, x2, x3, x4, x5, x6, x7⟩ := boxAt_of (heap_alloc_new w (.cells (netCells Ab An As Ar cb cn cs cr N) 29))
  have hzb : (cellE N c != 0) = true := by rw [bne_iff_ne]; exact hz
  generalize cellE N c = z at *
  generalize placeX N c = p at *
  obtain ⟨p1, p2⟩ := p
  clear hN hl hcr hz
  go_enter Try.func12, Try.ntmps12
  go_wp2_with fail
  generalize w.alloc (.cells (netCells Ab An As Ar cb cn cs cr N) 29) = w0 at *
  refine (CP.out _ hB0.out).mono ?_
  rintro e w1 ⟨rfl, hb1⟩
  have HB1 := Lib.hid (hB0.out.trans (hb1.mono (Nat.le_of_lt hsz0)))
  clear x0 x1 x2 x3 x4 x5 x6 x7 hb1 CP
  go_wp2
  go_ret2
  exact ⟨rfl, HB1.out⟩
end Go.Proofs.Ytmdnkpiihhaoeaa
namespace Go.Proofs.Ytmdnkpiihhaoeaa
open Go Go.RowKit Fl

set_option maxRecDepth 100000 in
set_option maxHeartbeats 2000000 in
theorem configuredX_c (q a d p : Int) (w : World) :
    Calls Try.prog 76 #[.agg #[Iv q, Iv a, Iv d, Iv p]] w (Exact (ConfOk q a d p) w) := by
  by_cases h : ConfOk q a d p
  · refine (configured_c q a d p w h).mono ?_
    rintro e w' ⟨rfl, hb⟩
    exact .yes h hb
  · have HN := Lib.hid h
    have hc : q < 1 ∨ (1 ≤ q ∧ 8 < q) ∨ (1 ≤ q ∧ q ≤ 8 ∧ a < 0) ∨ (1 ≤ q ∧ q ≤ 8 ∧ 0 ≤ a ∧ 4 < a) ∨ (1 ≤ q ∧ q ≤ 8 ∧ 0 ≤ a ∧ a ≤ 4 ∧ d < 0) ∨ (1 ≤ q ∧ q ≤ 8 ∧ 0 ≤ a ∧ a ≤ 4 ∧ 0 ≤ d ∧ 3 < d) ∨ (1 ≤ q ∧ q ≤ 8 ∧ 0 ≤ a ∧ a ≤ 4 ∧ 0 ≤ d ∧ d ≤ 3 ∧ p < 1) ∨ (1 ≤ q ∧ q ≤ 8 ∧ 0 ≤ a ∧ a ≤ 4 ∧ 0 ≤ d ∧ d ≤ 3 ∧ 1 ≤ p ∧ 16 < p) := by
      by_cases a1 : 1 ≤ q ∧ q ≤ 8
      · by_cases a2 : 0 ≤ a ∧ a ≤ 4
        · by_cases a3 : 0 ≤ d ∧ d ≤ 3
          · by_cases a4 : 1 ≤ p ∧ p ≤ 16
            · exact absurd ⟨a1, a2, a3, a4⟩ h
            · omega
          · omega
        · omega
      · omega
    have hb0 := Lib.hid ((Below.refl w.heap.size w).alloc (Nat.le_refl _) (.cells #[Iv q, Iv a, Iv d, Iv p] 27))
    clear h
    rcases hc with h | ⟨h1, h⟩ | ⟨h1, h2, h⟩ | ⟨h1, h2, h3, h⟩ | ⟨h1, h2, h3, h4, h⟩ | ⟨h1, h2, h3, h4, h5, h⟩ | ⟨h1, h2, h3, h4, h5, h6, h⟩ | ⟨h1, h2, h3, h4, h5, h6, h7, h⟩
    all_goals
      have hn := Int.not_le.2 h
      have hd := decide_eq_false hn
      clear h
      go_enter Try.func76, Try.ntmps76
      go_wp2
      go_ret
      exact .no HN.out hb0.out
set_option maxRecDepth 100000 in
set_option maxHeartbeats 4000000 in
theorem blocksX_c (Ab An As Ar : Option Addr) (cb cn cs cr : Nat) (N : NetD) (w : World) (hN : NetAt w Ab An As Ar N) (hl : NetLen N) :
    Calls Try.prog 74 #[.agg #[.slice Ab N.blocks.length cb, .slice An N.next.length cn, .slice As N.spurs.length cs, .slice Ar N.robots.length cr, Iv N.queue, Iv N.aging, Iv N.detours, Iv N.patience]] w (Exact (GridOk N) w) := by
  have hB0 : Below w.heap.size w (w.alloc (.cells (netCells Ab An As Ar cb cn cs cr N) 29)) := (Below.refl _ _).alloc (Nat.le_refl _) _
  have HX := Lib.hid (boxAt_of (heap_alloc_new w (.cells (netCells Ab An As Ar cb cn cs cr N) 29)))
  have hsz0 : w.heap.size < (w.alloc (.cells (netCells Ab An As Ar cb cn cs cr N) 29)).heap.size := by simp
  obtain ⟨y0, y1, y2, y3, y4, y5, y6, y7⟩ := boxAt_of (heap_alloc_new w (.cells (netCells Ab An As Ar cb cn cs cr N) 29))
  by_cases hs : (1 ≤ N.blocks.length ∧ N.blocks.length ≤ 24) ∧ N.next.length = N.blocks.length
  · have HB0 := Lib.hid hB0
    have HNx := Lib.hid hN
    have HLx := Lib.hid hl
    obtain ⟨⟨h1, h2⟩, h3⟩ := hs
    have hne : ((N.next.length : Int) != (N.blocks.length : Int)) = false := by rw [h3]; simp
    have HL := Lib.hid h3
    have h1i : ¬ (N.blocks.length : Int) < 1 := by omega
    have h2i : ¬ (24 : Int) < (N.blocks.length : Int) := by omega
    clear hN hl hB0 h3
    go_enter Try.func74, Try.ntmps74
    go_wp2
    generalize w.alloc (.cells (netCells Ab An As Ar cb cn cs cr N) 29) = w0 at *
    clear y0 y1 y2 y3 y4 y5 y6 y7 hne
    go_loopw [3] (fun i wr => ∃ (k : Nat), i = .int .i64 k ∧ k ≤ N.blocks.length ∧ Hid (∀ i (h : i < N.blocks.length) (h' : i < N.next.length), i < k → PlaceFit N.blocks[i] ∧ RowFit N.blocks.length i N.next[i]) ∧ Below w0.heap.size w0 wr) (fun i _ => N.blocks.length - (intOf i).toNat)
    case atStart => exact ⟨0, rfl, Nat.zero_le _, Lib.hid (fun i h h' hj => by omega), Below.refl _ _⟩
    case round =>
      obtain ⟨k, rfl, hk, HF, hb⟩ := hrel
      have hbw : Below w.heap.size w wr := HB0.out.trans (hb.mono (Nat.le_of_lt hsz0))
      obtain ⟨x0, x1, x2, x3, x4, x5, x6, x7⟩ := HX.out.keep hsz0 hb
      clear x2 x3 x4 x5 x6 x7
      by_cases hlt : k < N.blocks.length
      · have hltn : k < N.next.length := by have := HL.out; omega
        have hlti : (k : Int) < (N.blocks.length : Int) := by omega
        obtain ⟨bb, ob, rfl, hbb, hs⟩ := HNx.out.blocks.block hlt
        obtain ⟨c0, c1, c2⟩ := hs.keep hbb hbw
        obtain ⟨bn, on, A1, cc1, rfl, e1, hr⟩ := HNx.out.next.one hltn
        have hbn : bn < w.heap.size := World.block_lt_of_cell? _ _ e1
        have hrl := HLx.out.rows _ (List.getElem_mem hltn)
        have HW := Lib.hid (fun W (hW : Below w0.heap.size w0 W) => (HX.out.keep hsz0 hW))
        have HE1 : Hid (∀ W, Below w.heap.size w W → W.cell? ⟨bn, on + k, none⟩ = some (.slice A1 N.next[k].length cc1) ∧ Holds W A1 (N.next[k].map Iv)) := Lib.hid (fun W hW => ⟨(hW.cell (p := ⟨bn, on + k, none⟩) hbn).trans e1, hr.keep hW⟩)
        have e1a : ∀ o, (wr.alloc o).cell? ⟨bn, on + k, none⟩ = some (.slice A1 N.next[k].length cc1) := fun o => (HE1.out _ (hbw.alloc hbw.size o)).1
        have x1a : ∀ o, (wr.alloc o).cell? ⟨w.heap.size, 1, none⟩ = some (.slice (some ⟨bn, on, none⟩) N.next.length cn) := fun o => (HW.out _ (hb.alloc hb.size o)).c1
        have HBad : Hid (¬ (PlaceFit N.blocks[k] ∧ RowFit N.blocks.length k N.next[k]) → ¬ GridOk N) := Lib.hid (fun h hg => h ⟨hg.places _ (List.getElem_mem hlt), hg.rows k hltn⟩)
        have HGood : Hid (PlaceFit N.blocks[k] ∧ RowFit N.blocks.length k N.next[k] → ∀ i (h : i < N.blocks.length) (h' : i < N.next.length), i < k + 1 → PlaceFit N.blocks[i] ∧ RowFit N.blocks.length i N.next[i]) := Lib.hid (fun hf i h h' hj => by
          rcases Nat.lt_succ_iff_lt_or_eq.1 hj with h2 | rfl
          · exact HF.out i h h' h2
          · exact hf)
        clear hs hr e1 HF
        generalize N.next[k] = r at *
        generalize N.blocks[k] = x at *
        obtain ⟨nm, xx, yy⟩ := x
        simp only at c0 c1 c2
        have hbwN := Lib.hid hbw
        have HBa : Hid (∀ ob, Below w.heap.size w (wr.alloc ob)) := Lib.hid (fun ob => hbw.alloc hbw.size ob)
        by_cases hp : ((-9999 ≤ xx ∧ xx ≤ 9999) ∧ (-9999 ≤ yy ∧ yy ≤ 9999)) ∧ r.length ≤ 4
        · obtain ⟨⟨⟨p1, p2⟩, p3, p4⟩, hr4⟩ := hp
          have HPl : Hid (PlaceFit ⟨nm, xx, yy⟩) := Lib.hid ⟨⟨p1, p2⟩, ⟨p3, p4⟩⟩
          go_wp2
          have hb2 := hb.alloc hb.size (.cells #[Sv nm, Iv xx, Iv yy] 87)
          have hbw2 := hbw.alloc hbw.size (.cells #[Sv nm, Iv xx, Iv yy] 87)
          clear e1a x1a c0 c1 c2 hb hbw x0 x1 HBa hbwN
          generalize wr.alloc (.cells #[Sv nm, Iv xx, Iv yy] 87) = wx at *
          go_loop [5] (fun i => ∃ (j : Nat), i = .int .i64 j ∧ j ≤ r.length ∧ Hid (PreRow N.blocks.length k r j)) (fun i => r.length - (intOf i).toNat)
          case atStart => exact ⟨0, rfl, Nat.zero_le _, Lib.hid (PreRow.zero _ _ _)⟩
          case round =>
            obtain ⟨j, rfl, hj, HPr⟩ := hrel
            obtain ⟨x0, x1, x2, x3, x4, x5, x6, x7⟩ := HW.out _ hb2
            clear x2 x3 x4 x5 x6 x7
            obtain ⟨e1, hr⟩ := HE1.out _ hbw2
            by_cases hjt : j < r.length
            · obtain ⟨br, or_, rfl, e2⟩ := hr.iv hjt
              have hjti : (j : Int) < (r.length : Int) := by omega
              by_cases hok : (0 ≤ r[j] ∧ r[j] < (N.blocks.length : Int) ∧ r[j] ≠ (k : Int)) ∧ ∀ (h0 : 0 < j), r[j - 1]'(by omega) < r[j]
              · obtain ⟨⟨q0, q1, q2⟩, q3⟩ := hok
                have HPr2 := Lib.hid (HPr.out.step hjt ⟨q0, q1, q2⟩ q3)
                have q4 : (r[j] == (k : Int)) = false := by simpa using q2
                clear q2 HPr
                by_cases hj0 : j = 0
                · subst hj0
                  rw [Nat.add_zero] at e2
                  clear hr q3
                  generalize r[0] = x at *
                  go_wp2
                  go_round
                  case rel => exact ⟨1, by go_num, by omega, HPr2⟩
                  case measure => simp [intOf]; omega
                · have hjp : j - 1 < r.length := by omega
                  obtain ⟨b3, o3, hA3, e3⟩ := hr.iv hjp
                  injection hA3 with h
                  injection h with g1 g2
                  subst g1 g2
                  have hpos : 0 < j := by omega
                  have hlo := q3 hpos
                  have hcast : (j : Int) - 1 = ((j - 1 : Nat) : Int) := by omega
                  have hd4 : decide (r[j] ≤ r[j - 1]) = false := by rw [decide_eq_false_iff_not]; omega
                  clear hr hlo q3
                  generalize r[j] = x at *
                  generalize r[j - 1] = y at *
                  go_wp2
                  go_round
                  case rel => exact ⟨j + 1, by go_num, by omega, HPr2⟩
                  case measure => simp [intOf]; omega
              · have HB : Hid (¬ GridOk N) := Lib.hid (HBad.out (fun h => hok (h.2.step hjt)))
                have hcs : r[j] < 0 ∨ (0 ≤ r[j] ∧ (N.blocks.length : Int) ≤ r[j]) ∨ (0 ≤ r[j] ∧ ¬ (N.blocks.length : Int) ≤ r[j] ∧ r[j] = (k : Int)) ∨ ((0 ≤ r[j] ∧ ¬ (N.blocks.length : Int) ≤ r[j] ∧ r[j] ≠ (k : Int)) ∧ ∃ h0 : 0 < j, r[j] ≤ r[j - 1]'(by omega)) := by
                  by_cases a1 : 0 ≤ r[j]
                  · by_cases a2 : (N.blocks.length : Int) ≤ r[j]
                    · omega
                    · by_cases a3 : r[j] = (k : Int)
                      · exact .inr (.inr (.inl ⟨a1, a2, a3⟩))
                      · refine .inr (.inr (.inr ⟨⟨a1, a2, a3⟩, ?_⟩))
                        by_cases a4 : 0 < j
                        · refine ⟨a4, ?_⟩
                          by_cases a5 : r[j] ≤ r[j - 1]'(by omega)
                          · exact a5
                          · exact absurd ⟨⟨a1, by omega, a3⟩, fun _ => by omega⟩ hok
                        · exact absurd ⟨⟨a1, by omega, a3⟩, fun h => absurd h a4⟩ hok
                  · omega
                clear hok HPr HBad HGood
                rcases hcs with q | ⟨q0, q⟩ | ⟨q0, q1, q⟩ | ⟨⟨q0, q1, q2⟩, hpos, q⟩
                · clear hr
                  generalize r[j] = x at *
                  go_wp2
                  go_ret
                  exact .no HB.out hbw2
                · clear hr
                  generalize r[j] = x at *
                  have q0' : ¬ x < 0 := by omega
                  go_wp2
                  go_ret
                  exact .no HB.out hbw2
                · clear hr
                  have q2 : (r[j] == (k : Int)) = true := by simpa using q
                  have q0' : ¬ r[j] < 0 := by omega
                  clear q
                  generalize r[j] = x at *
                  go_wp2
                  go_ret
                  exact .no HB.out hbw2
                · have hjp : j - 1 < r.length := by omega
                  obtain ⟨b3, o3, hA3, e3⟩ := hr.iv hjp
                  injection hA3 with h
                  injection h with g1 g2
                  subst g1 g2
                  have hcast : (j : Int) - 1 = ((j - 1 : Nat) : Int) := by omega
                  have hd4 : decide (r[j] ≤ r[j - 1]) = true := by rw [decide_eq_true_iff]; exact q
                  have q4 : (r[j] == (k : Int)) = false := by simpa using q2
                  have hposi : (0 : Int) < (j : Int) := by omega
                  clear hr q q2
                  generalize r[j] = x at *
                  generalize r[j - 1] = y at *
                  go_wp2
                  go_ret
                  exact .no HB.out hbw2
            · obtain rfl : j = r.length := by omega
              have HF2 := Lib.hid (HGood.out ⟨HPl.out, HPr.out.all hr4⟩)
              clear hr HGood HBad HPr HPl
              go_wp2
              go_roundw
              case rel => exact ⟨k + 1, by go_num, by omega, HF2, hb2⟩
              case measure => simp [intOf]; omega
        · have HB : Hid (¬ GridOk N) := Lib.hid (HBad.out (fun h => hp ⟨⟨h.1.x, h.1.y⟩, h.2.few⟩))
          have hcs : xx < -9999 ∨ (¬ xx < -9999 ∧ 9999 < xx) ∨ (¬ xx < -9999 ∧ ¬ 9999 < xx ∧ yy < -9999) ∨ (¬ xx < -9999 ∧ ¬ 9999 < xx ∧ ¬ yy < -9999 ∧ 9999 < yy) ∨ (¬ xx < -9999 ∧ ¬ 9999 < xx ∧ ¬ yy < -9999 ∧ ¬ 9999 < yy ∧ (4 : Int) < (r.length : Int)) := by omega
          clear hp HBad HGood hb hbw
          rcases hcs with h | ⟨p1, h⟩ | ⟨p1, p2, h⟩ | ⟨p1, p2, p3, h⟩ | ⟨p1, p2, p3, p4, h⟩
          all_goals
            go_wp2
            go_ret
            exact .no HB.out (HBa.out _)
      · have HG : Hid (GridOk N) := Lib.hid (GridOk.of ⟨h1, h2⟩ HL.out (fun i h h' => HF.out i h h' (by omega)))
        have hkn : ¬ (k : Int) < (N.blocks.length : Int) := by omega
        go_wp2
        go_ret
        exact .yes HG.out hbw
  · have HNo2 : Hid (¬ GridOk N) := Lib.hid (fun h => hs ⟨h.size, h.lanes⟩)
    have HB0 := Lib.hid hB0
    have hc : N.blocks.length < 1 ∨ (¬ N.blocks.length < 1 ∧ 24 < N.blocks.length) ∨ (¬ N.blocks.length < 1 ∧ ¬ 24 < N.blocks.length ∧ N.next.length ≠ N.blocks.length) := by omega
    clear hs hB0
    rcases hc with h | ⟨h1, h⟩ | ⟨h1, h2, h⟩
    · have hi : (N.blocks.length : Int) < 1 := by omega
      go_enter Try.func74, Try.ntmps74
      go_wp2
      go_ret
      exact .no HNo2.out HB0.out
    · have hi : ¬ (N.blocks.length : Int) < 1 := by omega
      have hi2 : (24 : Int) < (N.blocks.length : Int) := by omega
      go_enter Try.func74, Try.ntmps74
      go_wp2
      go_ret
      exact .no HNo2.out HB0.out
    · have hi : ¬ (N.blocks.length : Int) < 1 := by omega
      have hi2 : ¬ (24 : Int) < (N.blocks.length : Int) := by omega
      have hne : ((N.next.length : Int) != (N.blocks.length : Int)) = true := by rw [bne_iff_ne]; omega
      go_enter Try.func74, Try.ntmps74
      go_wp2
      go_ret
      exact .no HNo2.out HB0.out
end Go.Proofs.Ytmdnkpiihhaoeaa
namespace Go.Proofs.Ytmdnkpiihhaoeaa
open Go Go.RowKit Fl
attribute [local go_sem] bget

/-- All names are names, and no two are the same. -/
def NamesOk (L : List (List UInt8)) : Prop := (∀ s ∈ L, name s = true) ∧ L.Nodup
/-- The first k of them. -/
def PreNames (L : List (List UInt8)) (k : Nat) : Prop := (∀ i (h : i < L.length), i < k → name L[i] = true) ∧ ∀ i j (hi : i < L.length) (hj : j < L.length), i < k → j < i → L[i] ≠ L[j]
theorem PreNames.zero (L : List (List UInt8)) : PreNames L 0 := ⟨fun i h hj => by omega, fun i j h1 h2 hj => by omega⟩
theorem PreNames.step {L : List (List UInt8)} {k : Nat} (h : PreNames L k) (hk : k < L.length) (h1 : name L[k] = true) (h2 : ∀ j (hj : j < k), L[k] ≠ L[j]'(by omega)) : PreNames L (k + 1) := by
  refine ⟨fun i hi hik => ?_, fun i j hi hj hik hji => ?_⟩
  · rcases Nat.lt_succ_iff_lt_or_eq.1 hik with h' | rfl
    · exact h.1 i hi h'
    · exact h1
  · rcases Nat.lt_succ_iff_lt_or_eq.1 hik with h' | rfl
    · exact h.2 i j hi hj h' hji
    · exact h2 j hji
theorem PreNames.all {L : List (List UInt8)} (h : PreNames L L.length) : NamesOk L := by
  refine ⟨fun s hs => ?_, ?_⟩
  · obtain ⟨i, hi, rfl⟩ := List.mem_iff_getElem.1 hs
    exact h.1 i hi hi
  · refine List.pairwise_iff_getElem.2 (fun i j hi hj hij => ?_)
    exact fun e => h.2 j i hj hi hj hij e.symm
theorem NamesOk.at_ {L : List (List UInt8)} (h : NamesOk L) {k : Nat} (hk : k < L.length) : name L[k] = true ∧ ∀ j (hj : j < k), L[k] ≠ L[j]'(by omega) :=
  ⟨h.1 _ (List.getElem_mem hk), fun j hj e => List.pairwise_iff_getElem.1 h.2 j k (by omega) hk hj e.symm⟩
set_option maxRecDepth 100000 in
set_option maxHeartbeats 4000000 in
theorem namesX_c (Ab An As Ar : Option Addr) (cb cn cs cr : Nat) (N : NetD) (w : World) (hN : NetAt w Ab An As Ar N) (hl : NetLen N) (h24 : N.blocks.length ≤ 24) (h6 : N.spurs.length ≤ 6) :
    Calls Try.prog 75 #[.agg #[.slice Ab N.blocks.length cb, .slice An N.next.length cn, .slice As N.spurs.length cs, .slice Ar N.robots.length cr, Iv N.queue, Iv N.aging, Iv N.detours, Iv N.patience]] w (Exact (NamesOk (namesN N)) w) := by
  have HN := Lib.hid hN
  have HNm := Lib.hid hl.named
  have hB0 : Below w.heap.size w (w.alloc (.cells (netCells Ab An As Ar cb cn cs cr N) 29)) := (Below.refl _ _).alloc (Nat.le_refl _) _
  have HX := Lib.hid (boxAt_of (heap_alloc_new w (.cells (netCells Ab An As Ar cb cn cs cr N) 29)))
  have hsz0 : (w.alloc (.cells (netCells Ab An As Ar cb cn cs cr N) 29)).heap.size = w.heap.size + 1 := by simp
  clear hN hl
  go_enter Try.func75, Try.ntmps75
  go_wp2
  generalize w.alloc (.cells (netCells Ab An As Ar cb cn cs cr N) 29) = w0 at *
  have HB0 := Lib.hid hB0
  have hsz1 : w.heap.size < w0.heap.size := by omega
  clear hB0 hsz0
  go_loopw [3, 4] (fun v i wr => ∃ (k : Nat), i = .int .i64 k ∧ k ≤ N.blocks.length ∧ Hid (wr.ownsRow w0.heap.size 9 1 v k ((bNames N k).map Sv)) ∧ Below w0.heap.size w0 wr) (fun _ i _ => N.blocks.length - (intOf i).toNat)
  case atStart => exact ⟨0, rfl, Nat.zero_le _, Lib.hid (World.ownsRow_nil _ _ _ _), Below.refl _ _⟩
  case round =>
    obtain ⟨k, rfl, hk, HO, hb⟩ := hrel
    have hbw : Below w.heap.size w wr := HB0.out.trans (hb.mono (Nat.le_of_lt hsz1))
    obtain ⟨x0, _, x2, _⟩ := HX.out.keep hsz1 hb
    have hsz := hb.size
    by_cases hlt : k < N.blocks.length
    · obtain ⟨bb, ob, rfl, hbb, hs⟩ := HN.out.blocks.block hlt
      obtain ⟨c0, _, _⟩ := hs.keep hbb hbw
      have HT : Hid ((bNames N (k + 1)).map Sv = (bNames N k).map Sv ++ [Sv N.blocks[k].name]) := Lib.hid (by rw [bNames_succ hlt, List.map_append]; rfl)
      have base := own_base HO.out
      clear hs hbw
      generalize N.blocks[k].name = nm at *
      go_wp2_with (at_builtin; refine app_str _ rfl _ _ rfl w0.heap.size _ _ _ rfl (HO.out.alloc _) wr.heap.size nm rfl (by simp [go_sem]) (by omega) (by simp; omega) ?_)
      intro v8 w8 own8 hg8
      have hb8 : Below w0.heap.size w0 w8 := (hb.alloc hb.size _).grown hg8 (by simp; omega) (fun k hk => base k hk)
      have HO8 : Hid (w8.ownsRow w0.heap.size 9 1 v8 (k + 1) ((bNames N (k + 1)).map Sv)) := Lib.hid (by rw [HT.out]; exact own8)
      clear own8 hg8 base HO
      go_wp2
      go_roundw
      case rel => exact ⟨k + 1, by go_num, by omega, HO8, hb8⟩
      case measure => simp [intOf]; omega
    · obtain rfl : k = N.blocks.length := by omega
      have HO2 : Hid (wr.ownsRow w0.heap.size 9 1 u3 (N.blocks.length + 0) ((sNames N 0).map Sv)) := Lib.hid (by rw [sNames_zero]; exact HO.out)
      clear HO hbw
      go_wp2
      clear x0 x2 hsz
      go_loopw [3, 5] (fun v i wr => ∃ (k : Nat), i = .int .i64 k ∧ k ≤ N.spurs.length ∧ Hid (wr.ownsRow w0.heap.size 9 1 v (N.blocks.length + k) ((sNames N k).map Sv)) ∧ Below w0.heap.size w0 wr) (fun _ i _ => N.spurs.length - (intOf i).toNat)
      case atStart => exact ⟨0, rfl, Nat.zero_le _, HO2, hb⟩
      case round =>
        clear HO2 hb
        obtain ⟨k, rfl, hk, HO, hb⟩ := hrel
        have hbw : Below w.heap.size w wr := HB0.out.trans (hb.mono (Nat.le_of_lt hsz1))
        obtain ⟨x0, _, x2, _⟩ := HX.out.keep hsz1 hb
        have hsz := hb.size
        by_cases hlt : k < N.spurs.length
        · obtain ⟨bb, ob, rfl, hbb, hs⟩ := HN.out.spurs.spur hlt
          have c0 := (hs.keep hbb hbw).c0
          have HT : Hid ((sNames N (k + 1)).map Sv = (sNames N k).map Sv ++ [Sv N.spurs[k].name]) := Lib.hid (by rw [sNames_succ hlt, List.map_append]; rfl)
          have base := own_base HO.out
          clear hs hbw
          generalize N.spurs[k].name = nm at *
          go_wp2_with (at_builtin; refine app_str _ rfl _ _ rfl w0.heap.size _ _ _ rfl (HO.out.alloc _) wr.heap.size nm rfl (by simp [go_sem]) (by omega) (by simp; omega) ?_)
          intro v8 w8 own8 hg8
          have hb8 : Below w0.heap.size w0 w8 := (hb.alloc hb.size _).grown hg8 (by simp; omega) (fun k hk => base k hk)
          have HO8 : Hid (w8.ownsRow w0.heap.size 9 1 v8 (N.blocks.length + (k + 1)) ((sNames N (k + 1)).map Sv)) := Lib.hid (by rw [HT.out]; exact own8)
          clear own8 hg8 base HO
          go_wp2
          go_roundw
          case rel => exact ⟨k + 1, by go_num, by omega, HO8, hb8⟩
          case measure => simp [intOf]; omega
        · obtain rfl : k = N.spurs.length := by omega
          have HO2 : Hid (wr.ownsRow w0.heap.size 9 1 u3 (namesN N).length ((namesN N).map Sv)) := Lib.hid (by
            have h := HO.out
            rw [sNames_all] at h
            have e : (namesN N).length = N.blocks.length + N.spurs.length := by simp [namesN]
            rw [e]; exact h)
          have hL30 : (namesN N).length ≤ 30 := by simp [namesN]; omega
          have HBw := Lib.hid hbw
          clear HO hbw hsz
          obtain ⟨AL, cL, rfl, hL⟩ := own_is HO2.out
          have HL := Lib.hid hL
          generalize namesN N = L at *
          clear HO2 hL
          go_wp2
          clear x0 x2 hb
          go_loopw [6] (fun i wz => ∃ (k n : Nat), i = .int .i64 k ∧ k ≤ L.length ∧ Hid (PreNames L k) ∧ wz = wr.drewN n) (fun i _ => L.length - (intOf i).toNat)
          case atStart => exact ⟨0, 0, rfl, Nat.zero_le _, Lib.hid (PreNames.zero _), rfl⟩
          case round =>
            obtain ⟨k, n, rfl, hk, HP, rfl⟩ := hrel
            by_cases hlt : k < L.length
            · obtain ⟨bl, ol, rfl, ek⟩ := HL.out.sv hlt
              have HC := Lib.hid (fun W => refName_c L[k] W (HNm.out _ (List.getElem_mem hlt)))
              rcases hnk : name L[k] with _ | _
              · have HB : Hid (¬ NamesOk L) := Lib.hid (fun h => by have := (h.at_ hlt).1; rw [hnk] at this; cases this)
                rw [hnk] at HC
                clear hnk HP HNm
                generalize L[k] = nm at *
                go_wp2_with fail
                refine (HC.out _).mono ?_
                rintro e w9 ⟨rfl, rfl⟩
                go_wp2
                go_ret
                exact .no HB.out (below_drewN HBw.out _)
              · rw [hnk] at HC
                have HSt : Hid ((∀ j (hj : j < k), L[k] ≠ L[j]'(by omega)) → PreNames L (k + 1)) := Lib.hid (fun h => HP.out.step hlt hnk h)
                have HNo : Hid (∀ j (hj : j < k), L[k] = L[j]'(by omega) → ¬ NamesOk L) := Lib.hid (fun j hj e h => (h.at_ hlt).2 j hj e)
                clear hnk HP
                generalize hnm : L[k] = nm at *
                have HNk := Lib.hid hnm
                clear hnm
                go_wp2_with fail
                refine (HC.out _).mono ?_
                rintro e w9 ⟨rfl, rfl⟩
                go_wp2
                go_loopw [7] (fun i wz => ∃ (j n : Nat), i = .int .i64 j ∧ j ≤ k ∧ Hid (∀ j' (h : j' < L.length), j' < j → nm ≠ L[j']) ∧ wz = wr.drewN n) (fun i _ => k - (intOf i).toNat)
                case atStart => exact ⟨0, n, rfl, Nat.zero_le _, Lib.hid (fun j' _ h => by omega), rfl⟩
                case round =>
                  obtain ⟨j, n2, rfl, hj, HD, rfl⟩ := hrel
                  by_cases hjt : j < k
                  · have hjl : j < L.length := by omega
                    obtain ⟨bl2, ol2, hBeq, ej⟩ := HL.out.sv hjl
                    injection hBeq with hBeq
                    injection hBeq with hB1 hB2
                    subst hB1 hB2
                    by_cases heq : nm = L[j]
                    · have HB := Lib.hid (HNo.out j hjt heq)
                      have hne : (nm == L[j]) = true := by simpa using heq
                      clear heq HNo HSt HD HNk
                      generalize L[j] = nj at *
                      go_wp2
                      go_quiet (fail)
                      go_wp2
                      go_ret
                      exact .no HB.out (below_drewN (below_drewN HBw.out _) _)
                    · have hne : (nm == L[j]) = false := by simpa using heq
                      have HD2 : Hid (∀ j' (h : j' < L.length), j' < j + 1 → nm ≠ L[j']) := Lib.hid (fun j' h h2 => by
                        rcases Nat.lt_succ_iff_lt_or_eq.1 h2 with h3 | rfl
                        · exact HD.out j' h h3
                        · exact heq)
                      clear heq HD HNo HSt HNk
                      generalize L[j] = nj at *
                      go_wp2
                      go_quiet (fail)
                      go_wp2
                      go_roundw
                      case rel => exact ⟨j + 1, _, by go_num, by omega, HD2, rfl⟩
                      case measure => simp [intOf]; omega
                  · have HP2 := Lib.hid (HSt.out (fun j' hj' => HD.out j' (by omega) (by omega)))
                    clear HSt HNo HD HNk
                    go_wp2
                    go_roundw
                    case rel => exact ⟨k + 1, n2, by go_num, by omega, HP2, rfl⟩
                    case measure => simp [intOf]; omega
            · obtain rfl : k = L.length := by omega
              go_wp2
              go_ret
              exact .yes HP.out.all (below_drewN HBw.out n)
end Go.Proofs.Ytmdnkpiihhaoeaa
namespace Go.Proofs.Ytmdnkpiihhaoeaa
open Go Go.RowKit Fl

/-- The first k spurs are as they must be. -/
def PreSpurs (N : NetD) (k : Nat) : Prop := ∀ j (h : j < N.spurs.length), j < k → SpurFit N.blocks.length N.spurs j N.spurs[j]
def SomeDepot (N : NetD) (k : Nat) : Prop := ∃ j, ∃ h : j < N.spurs.length, j < k ∧ N.spurs[j].depot = true
theorem SomeDepot.all {N : NetD} : SomeDepot N N.spurs.length ↔ ∃ s ∈ N.spurs, s.depot = true := by
  constructor
  · rintro ⟨j, h, _, hd⟩; exact ⟨_, List.getElem_mem h, hd⟩
  · rintro ⟨s, hs, hd⟩
    obtain ⟨j, hj, rfl⟩ := List.mem_iff_getElem.1 hs
    exact ⟨j, hj, hj, hd⟩
theorem SomeDepot.succ {N : NetD} {k : Nat} (h : k < N.spurs.length) : SomeDepot N (k + 1) ↔ SomeDepot N k ∨ N.spurs[k].depot = true := by
  constructor
  · rintro ⟨j, hj, hjk, hd⟩
    rcases Nat.lt_succ_iff_lt_or_eq.1 hjk with h' | rfl
    · exact .inl ⟨j, hj, h', hd⟩
    · exact .inr hd
  · rintro (⟨j, hj, hjk, hd⟩ | hd)
    · exact ⟨j, hj, by omega, hd⟩
    · exact ⟨k, h, by omega, hd⟩
theorem PreSpurs.zero (N : NetD) : PreSpurs N 0 := fun j h hj => by omega
theorem PreSpurs.step {N : NetD} {k : Nat} (h : PreSpurs N k) (hk : k < N.spurs.length) (h1 : SpurFit N.blocks.length N.spurs k N.spurs[k]) : PreSpurs N (k + 1) := fun j hj hjk => by
  rcases Nat.lt_succ_iff_lt_or_eq.1 hjk with h' | rfl
  · exact h j hj h'
  · exact h1
set_option maxRecDepth 100000 in
set_option maxHeartbeats 8000000 in
theorem refValid_x (Ab An As Ar : Option Addr) (cb cn cs cr : Nat) (N : NetD) (w : World) (hN : NetAt w Ab An As Ar N) (hl : NetLen N) (hcr : N.robots.length ≤ cr) :
    Calls Try.prog 64 #[.agg #[.slice Ab N.blocks.length cb, .slice An N.next.length cn, .slice As N.spurs.length cs, .slice Ar N.robots.length cr, Iv N.queue, Iv N.aging, Iv N.detours, Iv N.patience]] w (Exact (NetOk N) w) := by
  have HN := Lib.hid hN
  have HIff := Lib.hid (netOk_iff N)
  have CB := Lib.hid (fun W (hW : Below w.heap.size w W) => blocksX_c Ab An As Ar cb cn cs cr N W (hN.keep hW) hl)
  have CN := Lib.hid (fun W (hW : Below w.heap.size w W) (h24 : N.blocks.length ≤ 24) (h6 : N.spurs.length ≤ 6) => namesX_c Ab An As Ar cb cn cs cr N W (hN.keep hW) hl h24 h6)
  have CC := Lib.hid (fun W => configuredX_c N.queue N.aging N.detours N.patience W)
  have hB0 : Below w.heap.size w (w.alloc (.cells (netCells Ab An As Ar cb cn cs cr N) 29)) := (Below.refl _ _).alloc (Nat.le_refl _) _
  have hX0 := boxAt_of (heap_alloc_new w (.cells (netCells Ab An As Ar cb cn cs cr N) 29))
  have hsz0 : (w.alloc (.cells (netCells Ab An As Ar cb cn cs cr N) 29)).heap.size = w.heap.size + 1 := by simp
  have HX := Lib.hid hX0
  obtain ⟨x0, x1, x2, x3, x4, x5, x6, x7⟩ := hX0
  clear hN hl
  go_enter Try.func64, Try.ntmps64
  go_wp2_with fail
  generalize w.alloc (.cells (netCells Ab An As Ar cb cn cs cr N) 29) = w0 at *
  have HB0 := Lib.hid hB0
  have hsz1 : w.heap.size < w0.heap.size := by omega
  clear hB0 hsz0
  refine (CB.out w0 HB0.out).mono ?_
  intro e w1 hE
  obtain ⟨hE, hb1⟩ := hE.use
  have HB1 := Lib.hid hb1
  have HBw1 := Lib.hid (HB0.out.trans (hb1.mono (Nat.le_of_lt hsz1)))
  clear x0 x1 x2 x3 x4 x5 x6 x7 hb1 CB
  obtain ⟨x0, x1, x2, x3, x4, x5, x6, x7⟩ := HX.out.keep hsz1 HB1.out
  obtain ⟨hg, rfl⟩ | ⟨hg, rfl⟩ := hE
  rotate_left
  · have HB : Hid (¬ NetOk N) := Lib.hid (fun h => hg (HIff.out.1 h).1)
    clear hg
    go_wp2
    go_ret
    exact .no HB.out HBw1.out
  have h24 := hg.size.2
  have HG := Lib.hid hg
  clear hg
  by_cases h6 : N.spurs.length ≤ 6
  rotate_left
  · have HB : Hid (¬ NetOk N) := Lib.hid (fun h => h6 (HIff.out.1 h).2.1.few)
    have h6i : (6 : Int) < (N.spurs.length : Int) := by omega
    go_wp2
    go_ret
    exact .no HB.out HBw1.out
  have h6i : ¬ (6 : Int) < (N.spurs.length : Int) := by omega
  go_wp2_with fail
  refine (CN.out w1 HBw1.out h24 h6).mono ?_
  intro e w2 hE
  obtain ⟨hE, hb2⟩ := hE.use
  have HB2 := Lib.hid (HB1.out.trans (hb2.mono HB1.out.size))
  have HBw2 := Lib.hid (HBw1.out.trans (hb2.mono HBw1.out.size))
  clear x0 x1 x2 x3 x4 x5 x6 x7 hb2 CN HB1 HBw1
  obtain ⟨x0, x1, x2, x3, x4, x5, x6, x7⟩ := HX.out.keep hsz1 HB2.out
  obtain ⟨hg, rfl⟩ | ⟨hg, rfl⟩ := hE
  rotate_left
  · have HB : Hid (¬ NetOk N) := Lib.hid (fun h => hg ⟨(HIff.out.1 h).2.2.2.1, (HIff.out.1 h).2.2.2.2.1⟩)
    clear hg
    go_wp2
    go_ret
    exact .no HB.out HBw2.out
  have HNm := Lib.hid hg
  clear hg
  by_cases h8 : N.robots.length ≤ 8
  rotate_left
  · have HB : Hid (¬ NetOk N) := Lib.hid (fun h => h8 (HIff.out.1 h).2.2.2.2.2.1.few)
    have h8i : (8 : Int) < (N.robots.length : Int) := by omega
    go_wp2
    go_ret
    exact .no HB.out HBw2.out
  have h8i : ¬ (8 : Int) < (N.robots.length : Int) := by omega
  go_wp2_with fail
  refine (CC.out w2).mono ?_
  intro e w3 hE
  obtain ⟨hE, hb3⟩ := hE.use
  have HB3 := Lib.hid (HB2.out.trans (hb3.mono HB2.out.size))
  have HBw3 := Lib.hid (HBw2.out.trans (hb3.mono HBw2.out.size))
  clear x0 x1 x2 x3 x4 x5 x6 x7 hb3 CC HB2 HBw2
  obtain ⟨x0, x1, x2, x3, x4, x5, x6, x7⟩ := HX.out.keep hsz1 HB3.out
  obtain ⟨hg, rfl⟩ | ⟨hg, rfl⟩ := hE
  rotate_left
  · have HB : Hid (¬ NetOk N) := Lib.hid (fun h => hg (HIff.out.1 h).2.2.2.2.2.2)
    clear hg
    go_wp2
    go_ret
    exact .no HB.out HBw3.out
  have HCf := Lib.hid hg
  clear hg
  go_wp2
  have HW := Lib.hid (fun W (hW : Below w0.heap.size w0 W) => HX.out.keep hsz1 hW)
  have HWN := Lib.hid (fun W (hW : Below w0.heap.size w0 W) => HB0.out.trans (hW.mono (Nat.le_of_lt hsz1)))
  have hb3 := HB3.out
  clear x0 x1 x2 x3 x4 x5 x6 x7 HB3 HBw3 HX h6i h8i
  go_loopw [3, 4, 5] (fun bv dv i wr => ∃ (k : Nat) (z y : Int), i = .int .i64 k ∧ k ≤ N.spurs.length ∧ bv = .int .i64 z ∧ Hid (z = N.blocks.length + slotsK N.spurs k) ∧ 0 ≤ z ∧ z ≤ 24 + 4 * k ∧ dv = .int .i64 y ∧ 0 ≤ y ∧ y ≤ k ∧ Hid (0 < y ↔ SomeDepot N k) ∧ Hid (PreSpurs N k) ∧ Below w0.heap.size w0 wr) (fun _ _ i _ => N.spurs.length - (intOf i).toNat)
  case atStart => exact ⟨0, _, 0, rfl, Nat.zero_le _, rfl, Lib.hid (by simp [slotsK]), by omega, by omega, rfl, by omega, by omega, Lib.hid ⟨fun h => by omega, fun ⟨j, _, h, _⟩ => by omega⟩, Lib.hid (PreSpurs.zero _), hb3⟩
  case round =>
    clear hb3
    obtain ⟨k, z, y, rfl, hk, rfl, HZ, hz0, hz1, rfl, hy0, hy1, HY, HP, hb⟩ := hrel
    obtain ⟨x0, x1, x2, x3, x4, x5, x6, x7⟩ := HW.out wr hb
    clear x1 x4 x5 x6 x7
    have hbw := HWN.out wr hb
    by_cases hlt : k < N.spurs.length
    · obtain ⟨b, o, rfl, hbs, hs⟩ := HN.out.spurs.spur hlt
      obtain ⟨c0, c1, c2, c3, c4, c5⟩ := hs.keep hbs hbw
      have x0a : ∀ ob, (wr.alloc ob).cell? ⟨w.heap.size, 0, none⟩ = some (.slice Ab N.blocks.length cb) := fun ob => (HW.out _ (hb.alloc hb.size ob)).c0
      have HB2 := Lib.hid (fun ob => hb.alloc hb.size ob)
      have HBw2 := Lib.hid (fun ob => hbw.alloc hbw.size ob)
      have HZ2 := Lib.hid (slotsK_succ hlt)
      by_cases hf : SpurFit N.blocks.length N.spurs k N.spurs[k]
      · obtain ⟨⟨i0, i1⟩, ⟨o0, o1⟩, ⟨s0, s1⟩, hbase⟩ := hf
        have hzb : N.spurs[k].base = z := by rw [hbase, HZ.out]
        have HP2 := Lib.hid (HP.out.step hlt ⟨⟨i0, i1⟩, ⟨o0, o1⟩, ⟨s0, s1⟩, hbase⟩)
        have HY2 : Hid (SomeDepot N (k + 1) ↔ SomeDepot N k ∨ N.spurs[k].depot = true) := Lib.hid (SomeDepot.succ hlt)
        clear hs hbase HP
        generalize N.spurs[k] = s at *
        obtain ⟨nm, dp, i, ot, sl, bs⟩ := s
        simp only at c0 c1 c2 c3 c4 c5 i0 i1 o0 o1 s0 s1 hzb HZ2 HY2
        subst hzb
        have hbne : (bs != bs) = false := by simp
        rcases dp with _ | _
        · go_wp2
          go_roundw
          case rel => exact ⟨k + 1, bs + sl, y, by go_num, by omega, rfl, Lib.hid (by rw [HZ2.out, HZ.out]; omega), by omega, by omega, rfl, hy0, by omega, Lib.hid (by rw [HY2.out, ← HY.out]; simp), HP2, HB2.out _⟩
          case measure => simp [intOf]; omega
        · go_wp2
          go_roundw
          case rel => exact ⟨k + 1, bs + sl, y + 1, by go_num, by omega, rfl, Lib.hid (by rw [HZ2.out, HZ.out]; omega), by omega, by omega, rfl, by omega, by omega, Lib.hid (by rw [HY2.out]; exact ⟨fun _ => .inr rfl, fun _ => by omega⟩), HP2, HB2.out _⟩
          case measure => simp [intOf]; omega
      · have HB : Hid (¬ NetOk N) := Lib.hid (fun h => hf ((HIff.out.1 h).2.1.each k hlt))
        have hcs : N.spurs[k].inn < 0 ∨ (¬ N.spurs[k].inn < 0 ∧ (N.blocks.length : Int) ≤ N.spurs[k].inn) ∨ (¬ N.spurs[k].inn < 0 ∧ ¬ (N.blocks.length : Int) ≤ N.spurs[k].inn ∧ N.spurs[k].out < 0) ∨ (¬ N.spurs[k].inn < 0 ∧ ¬ (N.blocks.length : Int) ≤ N.spurs[k].inn ∧ ¬ N.spurs[k].out < 0 ∧ (N.blocks.length : Int) ≤ N.spurs[k].out) ∨ (¬ N.spurs[k].inn < 0 ∧ ¬ (N.blocks.length : Int) ≤ N.spurs[k].inn ∧ ¬ N.spurs[k].out < 0 ∧ ¬ (N.blocks.length : Int) ≤ N.spurs[k].out ∧ N.spurs[k].slots < 1) ∨ (¬ N.spurs[k].inn < 0 ∧ ¬ (N.blocks.length : Int) ≤ N.spurs[k].inn ∧ ¬ N.spurs[k].out < 0 ∧ ¬ (N.blocks.length : Int) ≤ N.spurs[k].out ∧ ¬ N.spurs[k].slots < 1 ∧ 4 < N.spurs[k].slots) ∨ (¬ N.spurs[k].inn < 0 ∧ ¬ (N.blocks.length : Int) ≤ N.spurs[k].inn ∧ ¬ N.spurs[k].out < 0 ∧ ¬ (N.blocks.length : Int) ≤ N.spurs[k].out ∧ ¬ N.spurs[k].slots < 1 ∧ ¬ 4 < N.spurs[k].slots ∧ (N.spurs[k].base != z) = true) := by
          rw [bne_iff_ne]
          have := HZ.out
          by_cases e : N.spurs[k].base = z
          · by_cases a1 : (0 ≤ N.spurs[k].inn ∧ N.spurs[k].inn < N.blocks.length) ∧ (0 ≤ N.spurs[k].out ∧ N.spurs[k].out < N.blocks.length) ∧ (1 ≤ N.spurs[k].slots ∧ N.spurs[k].slots ≤ 4)
            · exact absurd ⟨a1.1, a1.2.1, a1.2.2, by rw [e, HZ.out]⟩ hf
            · omega
          · omega
        clear hs hf HP HZ2
        generalize N.spurs[k] = s at *
        obtain ⟨nm, dp, i, ot, sl, bs⟩ := s
        simp only at c0 c1 c2 c3 c4 c5 hcs
        rcases hcs with q | ⟨q1, q⟩ | ⟨q1, q2, q⟩ | ⟨q1, q2, q3, q⟩ | ⟨q1, q2, q3, q4, q⟩ | ⟨q1, q2, q3, q4, q5, q⟩ | ⟨q1, q2, q3, q4, q5, q6, q⟩
        all_goals
          go_wp2
          go_ret
          exact .no HB.out (HBw2.out _)
    · obtain rfl : k = N.spurs.length := by omega
      have HSp : Hid (SpursOk N) := Lib.hid ⟨h6, fun j hj => HP.out j hj hj⟩
      have HY2 : Hid (0 < y ↔ ∃ s ∈ N.spurs, s.depot = true) := Lib.hid (HY.out.trans SomeDepot.all)
      clear HY HZ HP
      go_wp2
      clear x0 x2 x3 hbw
      go_loopw [7] (fun i wr => ∃ (k : Nat), i = .int .i64 k ∧ k ≤ N.robots.length ∧ Hid (PreRobs N k) ∧ Below w0.heap.size w0 wr) (fun i _ => N.robots.length - (intOf i).toNat)
      case atStart => exact ⟨0, rfl, Nat.zero_le _, Lib.hid (PreRobs.zero _), hb⟩
      case round =>
        clear hb
        obtain ⟨k, rfl, hk, HP, hb⟩ := hrel
        obtain ⟨x0, x1, x2, x3, x4, x5, x6, x7⟩ := HW.out wr hb
        clear x0 x1 x4 x5 x6 x7
        have hbw := HWN.out wr hb
        by_cases hlt : k < N.robots.length
        · obtain ⟨br, or_, rfl, er0⟩ := HN.out.robots.iv hlt
          have hbr : br < w.heap.size := World.block_lt_of_cell? _ _ er0
          have HER : Hid (∀ W, Below w.heap.size w W → W.cell? ⟨br, or_ + k, none⟩ = some (.int .i64 N.robots[k])) := Lib.hid (fun W hW => (hW.cell (p := ⟨br, or_ + k, none⟩) hbr).trans er0)
          have HSt : Hid (inDepot N.spurs N.robots[k] → N.robots[k] ∉ N.robots.take k → PreRobs N (k + 1)) := Lib.hid (HP.out.step hlt)
          have HNo : Hid (¬ (inDepot N.spurs N.robots[k] ∧ N.robots[k] ∉ N.robots.take k) → ¬ NetOk N) := Lib.hid (fun h h2 => h ((HIff.out.1 h2).2.2.2.2.2.1.at_ hlt))
          have HHas := Lib.hid (fun W (hW : Below w.heap.size w W) => has_q (some ⟨br, or_, none⟩) cr k N.robots N.robots[k] W (HN.out.robots.keep hW) (by omega) (by omega))
          clear er0 HP
          generalize N.robots[k] = rb at *
          go_wp2
          clear x2 x3
          go_loopw [8, 9] (fun okv j wr => ∃ (m : Nat) (okb : Bool), j = .int .i64 m ∧ m ≤ N.spurs.length ∧ okv = .bool okb ∧ Hid (okb = true ↔ HeldTo N.spurs rb m) ∧ Below w0.heap.size w0 wr) (fun _ j _ => N.spurs.length - (intOf j).toNat)
          case atStart => exact ⟨0, false, rfl, Nat.zero_le _, rfl, Lib.hid ⟨fun h => absurd h Bool.false_ne_true, fun h => absurd h HeldTo.zero⟩, hb⟩
          case round =>
            clear hb hbw
            obtain ⟨m, okb, rfl, hm, rfl, HK, hb⟩ := hrel
            obtain ⟨x0, x1, x2, x3, x4, x5, x6, x7⟩ := HW.out wr hb
            clear x0 x1 x4 x5 x6 x7
            have hbw := HWN.out wr hb
            by_cases hmt : m < N.spurs.length
            · obtain ⟨b, o, rfl, hbs, hs⟩ := HN.out.spurs.spur hmt
              obtain ⟨c0, c1, c2, c3, c4, c5⟩ := hs.keep hbs hbw
              obtain ⟨s0, s1⟩ := (HSp.out.each m hmt).slots
              have hsb := slotsK_bounds (l := N.spurs) (fun s hs => by obtain ⟨j, hj, rfl⟩ := List.mem_iff_getElem.1 hs; have := (HSp.out.each j hj).slots; omega) m (by omega)
              have hbase := (HSp.out.each m hmt).base
              have hbb : 0 ≤ N.spurs[m].base ∧ N.spurs[m].base ≤ 100 := by omega
              have HK2 : Hid (∀ ok', (ok' = true ↔ okb = true ∨ holdsR N.spurs[m] rb) → (ok' = true ↔ HeldTo N.spurs rb (m + 1))) := Lib.hid (fun ok' h => by rw [h, HK.out, HeldTo.succ hmt])
              have x3a : ∀ ob, (wr.alloc ob).cell? ⟨w.heap.size, 3, none⟩ = some (.slice (some ⟨br, or_, none⟩) N.robots.length cr) := fun ob => (HW.out _ (hb.alloc hb.size ob)).c3
              have era : ∀ ob, (wr.alloc ob).cell? ⟨br, or_ + k, none⟩ = some (.int .i64 rb) := fun ob => HER.out _ (hbw.alloc hbw.size ob)
              clear hs hsb hbase HK
              generalize N.spurs[m] = s at *
              obtain ⟨nm, dp, i, ot, sl, bs⟩ := s
              simp only at c0 c1 c2 c3 c4 c5 s0 s1 hbb HK2
              obtain ⟨hbb0, hbb1⟩ := hbb
              have hw1 : IntKind.i64.wrap (bs + sl) = bs + sl := IntWalk.i64_in _ (by omega)
              have hb2 := fun ob => hb.alloc hb.size ob
              have HB2 := Lib.hid hb2
              clear hb2
              have hcase : okb = true ∨ okb = false ∧ dp = false ∨ okb = false ∧ dp = true ∧ decide (bs ≤ rb) = false ∨ okb = false ∧ dp = true ∧ decide (bs ≤ rb) = true ∧ decide (rb < bs + sl) = false ∨ okb = false ∧ dp = true ∧ decide (bs ≤ rb) = true ∧ decide (rb < bs + sl) = true := by
                rcases okb with _ | _ <;> rcases dp with _ | _ <;> rcases decide (bs ≤ rb) with _ | _ <;> rcases decide (rb < bs + sl) with _ | _ <;> simp
              rcases hcase with rfl | ⟨rfl, rfl⟩ | ⟨rfl, rfl, hd1⟩ | ⟨rfl, rfl, hd1, hd2⟩ | ⟨rfl, rfl, hd1, hd2⟩
              · have HK3 := Lib.hid ((HK2.out true ⟨fun _ => .inl rfl, fun _ => rfl⟩).1 rfl)
                clear HK2
                go_wp2
                go_quiet (fail)
                go_wp2
                go_roundw
                case rel => exact ⟨m + 1, true, by go_num, by omega, rfl, Lib.hid ⟨fun _ => HK3.out, fun _ => rfl⟩, below_drewN (HB2.out _) _⟩
                case measure => simp [intOf]; omega
              · have HK3 := Lib.hid (fun h => Bool.false_ne_true ((HK2.out false ⟨fun h => .inl h, fun h => h.elim id (fun h => h.1)⟩).2 h))
                clear HK2
                go_wp2
                go_quiet (fail)
                go_wp2
                go_roundw
                case rel => exact ⟨m + 1, false, by go_num, by omega, rfl, Lib.hid ⟨fun h => absurd h Bool.false_ne_true, fun h => absurd h HK3.out⟩, below_drewN (HB2.out _) _⟩
                case measure => simp [intOf]; omega
              · have HK3 := Lib.hid (fun h => Bool.false_ne_true ((HK2.out false ⟨fun h => .inl h, fun h => h.elim id (fun h => absurd h.2.1 (of_decide_eq_false hd1))⟩).2 h))
                clear HK2
                go_wp2
                go_quiet (fail)
                go_wp2
                go_roundw
                case rel => exact ⟨m + 1, false, by go_num, by omega, rfl, Lib.hid ⟨fun h => absurd h Bool.false_ne_true, fun h => absurd h HK3.out⟩, below_drewN (HB2.out _) _⟩
                case measure => simp [intOf]; omega
              · have HK3 := Lib.hid (fun h => Bool.false_ne_true ((HK2.out false ⟨fun h => .inl h, fun h => h.elim id (fun h => absurd h.2.2 (of_decide_eq_false hd2))⟩).2 h))
                clear HK2
                go_wp2
                go_quiet (fail)
                go_wp2
                go_roundw
                case rel => exact ⟨m + 1, false, by go_num, by omega, rfl, Lib.hid ⟨fun h => absurd h Bool.false_ne_true, fun h => absurd h HK3.out⟩, below_drewN (HB2.out _) _⟩
                case measure => simp [intOf]; omega
              · have HK3 := Lib.hid ((HK2.out true ⟨fun _ => .inr ⟨rfl, of_decide_eq_true hd1, of_decide_eq_true hd2⟩, fun _ => rfl⟩).1 rfl)
                clear HK2
                go_wp2
                go_quiet (fail)
                go_wp2
                go_roundw
                case rel => exact ⟨m + 1, true, by go_num, by omega, rfl, Lib.hid ⟨fun _ => HK3.out, fun _ => rfl⟩, below_drewN (HB2.out _) _⟩
                case measure => simp [intOf]; omega
            · obtain rfl : m = N.spurs.length := by omega
              have HK2 : Hid (okb = true ↔ inDepot N.spurs rb) := Lib.hid (HK.out.trans HeldTo.all)
              have er := HER.out wr hbw
              have hkc : k ≤ cr := by omega
              have HHd := Lib.hid (fun n => HHas.out (wr.drewN n) (below_drewN hbw n))
              have HBw := Lib.hid hbw
              clear HK
              rcases okb with _ | _
              · have HB : Hid (¬ NetOk N) := Lib.hid (HNo.out (fun h => Bool.false_ne_true (HK2.out.2 h.1)))
                clear HK2 HNo HSt HHd HHas
                go_wp2
                go_quiet (fail)
                go_wp2
                go_ret
                exact .no HB.out (below_drewN HBw.out _)
              · have HIn := Lib.hid (HK2.out.1 rfl)
                by_cases hmem : rb ∈ N.robots.take k
                · have HB : Hid (¬ NetOk N) := Lib.hid (HNo.out (fun h => h.2 hmem))
                  rw [decide_eq_true hmem] at HHd
                  clear HK2 HNo HSt HHas hmem
                  go_wp2
                  go_quiet ((go_at_call 27; exact Calls.quiet_of_same (HHd.out _)))
                  go_wp2
                  go_ret
                  exact .no HB.out (below_drewN HBw.out _)
                · have HP2 := Lib.hid (HSt.out HIn.out hmem)
                  rw [decide_eq_false hmem] at HHd
                  clear HK2 HNo HSt HHas hmem
                  go_wp2
                  go_quiet ((go_at_call 27; exact Calls.quiet_of_same (HHd.out _)))
                  go_wp2
                  go_roundw
                  case rel => exact ⟨k + 1, by go_num, by omega, HP2, below_drewN hb _⟩
                  case measure => simp [intOf]; omega
        · obtain rfl : k = N.robots.length := by omega
          have HE : Hid (0 < y ↔ NetOk N) := Lib.hid ⟨fun h => HIff.out.2 ⟨HG.out, HSp.out, HY2.out.1 h, HNm.out.1, HNm.out.2, HP.out.all h8, HCf.out⟩, fun h => HY2.out.2 (HIff.out.1 h).2.2.1⟩
          go_wp2
          go_ret
          exact .is (by simpa using HE.out) hbw
end Go.Proofs.Ytmdnkpiihhaoeaa
