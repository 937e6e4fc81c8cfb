/- Contracts of the reference's configured, blocks and names of layer 3, on valid networks. -/
import Derived.Test.YtpdjcccpohnmcaaDoorNtCells
import Derived.Test.YtpdjcccpohnmcaaDoorFdName
namespace Go.Proofs.YtpdjcccpohnmcaaDoor
open Go Go.RowKit Fl

theorem configured_c (q a d p : Int) (w : World) (h : ConfOk q a d p) :
    Calls Tryd.prog 53 #[.agg #[Iv q, Iv a, Iv d, Iv p]] w fun e w' => e = .returned (.bool true) ∧ Below w.heap.size w w' := by
  obtain ⟨⟨h1, h2⟩, ⟨h3, h4⟩, ⟨h5, h6⟩, ⟨h7, h8⟩⟩ := h
  go_enter Tryd.func53, Tryd.ntmps53
  go_wp2
  go_ret
  exact ⟨rfl, (Below.refl _ _).alloc (Nat.le_refl _) _⟩
set_option maxRecDepth 100000 in
set_option maxHeartbeats 4000000 in
theorem blocks_c (Ab An As Ar : Option Addr) (cb cn cs cr : Nat) (N : NetD) (w : World) (hN : NetAt w Ab An As Ar N) (hok : NetOk N) :
    Calls Tryd.prog 51 #[.agg #[.slice Ab N.blocks.length cb, .slice An N.next.length cn, .slice As N.spurs.length cs, .slice Ar N.robots.length cr, Iv N.queue, Iv N.aging, Iv N.detours, Iv N.patience]] w fun e w' => e = .returned (.bool true) ∧ Below w.heap.size w w' := by
  have HN := Lib.hid hN
  have HO := Lib.hid hok
  have hB0 : Below w.heap.size w (w.alloc (.cells (netCells Ab An As Ar cb cn cs cr N) 29)) := (Below.refl _ _).alloc (Nat.le_refl _) _
  have HX := Lib.hid (boxAt_of (heap_alloc_new w (.cells (netCells Ab An As Ar cb cn cs cr N) 29)))
  have hsz0 : w.heap.size < (w.alloc (.cells (netCells Ab An As Ar cb cn cs cr N) 29)).heap.size := by simp
  have h1 := hok.some
  have h2 := hok.few
  have h3 := hok.lanes
  have hne : ((N.next.length : Int) != (N.blocks.length : Int)) = false := by rw [h3]; simp
  have HL := Lib.hid h3
  obtain ⟨y0, y1, y2, y3, y4, y5, y6, y7⟩ := boxAt_of (heap_alloc_new w (.cells (netCells Ab An As Ar cb cn cs cr N) 29))
  clear hN hok h3
  go_enter Tryd.func51, Tryd.ntmps51
  go_wp2
  generalize w.alloc (.cells (netCells Ab An As Ar cb cn cs cr N) 29) = w0 at *
  clear y0 y1 y2 y3 y4 y5 y6 y7
  go_loopw [3] (fun i wr => ∃ (k : Nat), i = .int .i64 k ∧ k ≤ N.blocks.length ∧ Below w0.heap.size w0 wr) (fun i _ => N.blocks.length - (intOf i).toNat)
  case atStart => exact ⟨0, rfl, Nat.zero_le _, Below.refl _ _⟩
  case round =>
    obtain ⟨k, rfl, hk, hb⟩ := hrel
    have hbw : Below w.heap.size w wr := hB0.trans (hb.mono (Nat.le_of_lt hsz0))
    obtain ⟨x0, x1, x2, x3, x4, x5, x6, x7⟩ := HX.out.keep hsz0 hb
    clear x2 x3 x4 x5 x6 x7
    by_cases hlt : k < N.blocks.length
    · have hltn : k < N.next.length := by have := HL.out; omega
      obtain ⟨bb, ob, rfl, hbb, hs⟩ := HN.out.blocks.block hlt
      obtain ⟨c0, c1, c2⟩ := hs.keep hbb hbw
      obtain ⟨p1, p2, p3, p4⟩ := HO.out.places _ (List.getElem_mem hlt)
      obtain ⟨bn, on, A1, cc1, rfl, e1, hr⟩ := HN.out.next.one hltn
      have hbn : bn < w.heap.size := World.block_lt_of_cell? _ _ e1
      have ho4 := HO.out.outs _ (List.getElem_mem hltn)
      have HG := Lib.hid (validG_row HO.out.graph hltn)
      have HSrt := Lib.hid (validG_sorted' HO.out.graph hltn)
      have HW := Lib.hid (fun W (hW : Below w0.heap.size w0 W) => (HX.out.keep hsz0 hW))
      have HE1 : Hid (∀ W, Below w.heap.size w W → W.cell? ⟨bn, on + k, none⟩ = some (.slice A1 N.next[k].length cc1) ∧ Holds W A1 (N.next[k].map Iv)) := Lib.hid (fun W hW => ⟨(hW.cell (p := ⟨bn, on + k, none⟩) hbn).trans e1, hr.keep hW⟩)
      have e1a : ∀ o, (wr.alloc o).cell? ⟨bn, on + k, none⟩ = some (.slice A1 N.next[k].length cc1) := fun o => (HE1.out _ (hbw.alloc hbw.size o)).1
      have x1a : ∀ o, (wr.alloc o).cell? ⟨w.heap.size, 1, none⟩ = some (.slice (some ⟨bn, on, none⟩) N.next.length cn) := fun o => (HW.out _ (hb.alloc hb.size o)).c1
      clear hs hr e1
      generalize N.next[k] = r at *
      generalize N.blocks[k] = x at *
      obtain ⟨nm, xx, yy⟩ := x
      simp only at c0 c1 c2 p1 p2 p3 p4
      go_wp2
      have hb2 := hb.alloc hb.size (.cells #[Sv nm, Iv xx, Iv yy] 73)
      have hbw2 := hbw.alloc hbw.size (.cells #[Sv nm, Iv xx, Iv yy] 73)
      clear e1a x1a c0 c1 c2 hb hbw x0 x1
      generalize wr.alloc (.cells #[Sv nm, Iv xx, Iv yy] 73) = wx at *
      go_loop [5] (fun i => ∃ (j : Nat), i = .int .i64 j ∧ j ≤ r.length) (fun i => r.length - (intOf i).toNat)
      case atStart => exact ⟨0, rfl, Nat.zero_le _⟩
      case round =>
        obtain ⟨j, rfl, hj⟩ := hrel
        obtain ⟨x0, x1, x2, x3, x4, x5, x6, x7⟩ := HW.out _ hb2
        clear x2 x3 x4 x5 x6 x7
        obtain ⟨e1, hr⟩ := HE1.out _ hbw2
        by_cases hjt : j < r.length
        · obtain ⟨br, or_, rfl, e2⟩ := hr.iv hjt
          obtain ⟨q0, q1, q2⟩ := HG.out r[j] (List.getElem_mem hjt)
          have HLn := HL.out
          have q1' : r[j] < (N.blocks.length : Int) := by omega
          have q3 : (r[j] == (k : Int)) = false := by simpa using q2
          clear HLn q1 q2
          by_cases hj0 : j = 0
          · subst hj0
            rw [Nat.add_zero] at e2
            clear hr
            generalize r[0] = x at *
            go_wp2
            go_round
            case rel => exact ⟨1, by go_num, by omega⟩
            case measure => simp [intOf]; omega
          · have hjp : j - 1 < r.length := by omega
            obtain ⟨b3, o3, hA3, e3⟩ := hr.iv hjp
            injection hA3 with h
            injection h with g1 g2
            subst g1 g2
            have hlo : r[j - 1] < r[j] := List.pairwise_iff_getElem.1 HSrt.out (j - 1) j hjp hjt (by omega)
            have hpos : 0 < j := by omega
            have hcast : (j : Int) - 1 = ((j - 1 : Nat) : Int) := by omega
            have hd4 : decide (r[j] ≤ r[j - 1]) = false := by rw [decide_eq_false_iff_not]; omega
            clear hr hlo
            generalize r[j] = x at *
            generalize r[j - 1] = y at *
            go_wp2
            go_round
            case rel => exact ⟨j + 1, by go_num, by omega⟩
            case measure => simp [intOf]; omega
        · clear hr
          go_wp2
          go_roundw
          case rel => exact ⟨k + 1, by go_num, by omega, hb2⟩
          case measure => simp [intOf]; omega
    · go_wp2
      go_ret
      exact ⟨rfl, hbw⟩
end Go.Proofs.YtpdjcccpohnmcaaDoor
