/- Contract of cells.Name, for valid networks and cells that exist. -/
import Derived.Test.YtpdjcccpohnmcaaDoorMjA
import Derived.Test.YtpdjcccpohnmcaaDoorMjG
import Derived.Laws.IdiomStrings
import Derived.Deep.RegionHeld3
namespace Go.Proofs.YtpdjcccpohnmcaaDoor
open Go Go.RowKit Fl

theorem cloneSt_c (l : List UInt8) (w : World) (hs : l.length ≤ 100000) : Calls Tryd.prog 41 #[Sv l] w fun e w' => e = .returned (Sv l) ∧ Below w.heap.size w w' := by
  have C := Lib.hid (Tryd.stringslite_Clone ⟨l.toArray⟩ w (by show l.length ≤ _; omega))
  go_enter Tryd.func41, Tryd.ntmps41
  go_wp2_with (go_at_call 57; refine (C.out).mono ?_; rintro e w1 ⟨rfl, hb⟩)
  go_ret
  exact ⟨rfl, hb⟩
theorem bappS (a b : List UInt8) : (⟨a.toArray⟩ : ByteArray) ++ ⟨b.toArray⟩ = ⟨(a ++ b).toArray⟩ := by
  apply ByteArray.ext
  simp
/-- The name of a slot. -/
def slotName (nm : List UInt8) (j : Int) : List UInt8 := nm ++ [47] ++ dec j
set_option maxRecDepth 100000 in
set_option maxHeartbeats 4000000 in
theorem nameB_c (Ab An As Ar : Option Addr) (cb cn cs cr b : Nat) (N : NetD) (w : World) (hN : NetAt w Ab An As Ar N) (hok : NetOk N) (hcr : N.robots.length ≤ cr) (hb : b < N.blocks.length) :
    Calls Tryd.prog 22 #[.agg #[.slice Ab N.blocks.length cb, .slice An N.next.length cn, .slice As N.spurs.length cs, .slice Ar N.robots.length cr, Iv N.queue, Iv N.aging, Iv N.detours, Iv N.patience], .int .i64 b] w fun e w' => e = .returned (.tuple #[Sv N.blocks[b].name, .int .i64 0]) ∧ Below w.heap.size w w' := by
  obtain ⟨q1, q2⟩ := hok.placeB hb
  have CP := Lib.hid (fun W (hW : Below w.heap.size w W) => by
    have h := place_c Ab An As Ar cb cn cs cr N b W (hN.keep hW) hok hcr
    rw [q1, q2] at h
    exact h)
  obtain ⟨bp, op, rfl, hbp, hsp⟩ := hN.blocks.block hb
  have HBl : Hid (∀ W, Below w.heap.size w W → BlockAt W bp (op + b * 3) N.blocks[b]) := Lib.hid (fun W hW => hsp.keep hbp hW)
  have hnm := name_short (hok.named _ (show N.blocks[b].name ∈ namesN N from List.mem_append_left _ (List.mem_map_of_mem (List.getElem_mem hb))))
  have hB0 := Lib.hid ((Below.refl w.heap.size w).alloc (Nat.le_refl _) (.cells (netCells (some ⟨bp, op, none⟩) An As Ar cb cn cs cr N) 29))
  have HX := Lib.hid (boxAt_of (heap_alloc_new w (.cells (netCells (some ⟨bp, op, none⟩) An As Ar cb cn cs cr N) 29)))
  have hsz0 : w.heap.size < (w.alloc (.cells (netCells (some ⟨bp, op, none⟩) An As Ar cb cn cs cr N) 29)).heap.size := by simp
  obtain ⟨x0, x1, x2, x3, x4, x5, x6, x7⟩ := boxAt_of (heap_alloc_new w (.cells (netCells (some ⟨bp, op, none⟩) An As Ar cb cn cs cr N) 29))
  clear hN hok hcr hsp q1 q2
  generalize N.blocks[b] = x at *
  obtain ⟨nm, bx, by_⟩ := x
  simp only at HBl hnm
  have CC := Lib.hid (fun W => cloneSt_c nm W (by omega))
  go_enter Tryd.func22, Tryd.ntmps22
  go_wp2_with fail
  generalize w.alloc (.cells (netCells (some ⟨bp, op, none⟩) An As Ar cb cn cs cr N) 29) = w0 at *
  refine (CP.out _ hB0.out).mono ?_
  rintro e w1 ⟨rfl, hb1⟩
  have HB1 : Hid (Below w0.heap.size w0 w1) := Lib.hid hb1
  have HBw1 := Lib.hid (hB0.out.trans (hb1.mono (Nat.le_of_lt hsz0)))
  clear x0 x1 x2 x3 x4 x5 x6 x7 hb1 CP
  obtain ⟨x0, x1, x2, x3, x4, x5, x6, x7⟩ := HX.out.keep hsz0 HB1.out
  obtain ⟨c0, c1, c2⟩ := HBl.out _ HBw1.out
  simp only at c0 c1 c2
  go_wp2_with fail
  refine (CC.out _).mono ?_
  rintro e w2 ⟨rfl, hb2⟩
  have HB2 := Lib.hid (HBw1.out.trans (hb2.mono HBw1.out.size))
  clear hb2 x0 x1 x2 x3 x4 x5 x6 x7 c0 c1 c2
  go_wp2
  go_ret2
  exact ⟨rfl, HB2.out⟩
set_option maxRecDepth 100000 in
set_option maxHeartbeats 4000000 in
theorem nameS_c (Ab An As Ar : Option Addr) (cb cn cs cr k : Nat) (N : NetD) (c : Int) (w : World) (hN : NetAt w Ab An As Ar N) (hok : NetOk N) (hcr : N.robots.length ≤ cr) (hp : Pows w) (hk : k < N.spurs.length) (h1 : N.spurs[k].base ≤ c) (h2 : c < N.spurs[k].base + N.spurs[k].slots) :
    Calls Tryd.prog 22 #[.agg #[.slice Ab N.blocks.length cb, .slice An N.next.length cn, .slice As N.spurs.length cs, .slice Ar N.robots.length cr, Iv N.queue, Iv N.aging, Iv N.detours, Iv N.patience], .int .i64 c] w fun e w' => e = .returned (.tuple #[Sv (slotName N.spurs[k].name (c - N.spurs[k].base + 1)), .int .i64 0]) ∧ Below w.heap.size w w' := by
  obtain ⟨q1, q2⟩ := hok.placeS hk h1 h2
  have CP := Lib.hid (fun W (hW : Below w.heap.size w W) => by
    have h := place_c Ab An As Ar cb cn cs cr N c W (hN.keep hW) hok hcr
    rw [q1, q2] at h
    exact h)
  have hbd := hok.bounds _ (List.getElem_mem hk)
  obtain ⟨bp, op, rfl, hbp, hsp⟩ := hN.spurs.spur hk
  have HSp : Hid (∀ W, Below w.heap.size w W → SpurAt W bp (op + k * 6) N.spurs[k]) := Lib.hid (fun W hW => hsp.keep hbp hW)
  have h6 := hok.spurs6
  have hnm := name_short (hok.named _ (show N.spurs[k].name ∈ namesN N from List.mem_append_right _ (List.mem_map_of_mem (List.getElem_mem hk))))
  have hB0 := Lib.hid ((Below.refl w.heap.size w).alloc (Nat.le_refl _) (.cells (netCells Ab An (some ⟨bp, op, none⟩) Ar cb cn cs cr N) 29))
  have HX := Lib.hid (boxAt_of (heap_alloc_new w (.cells (netCells Ab An (some ⟨bp, op, none⟩) Ar cb cn cs cr N) 29)))
  have hsz0 : w.heap.size < (w.alloc (.cells (netCells Ab An (some ⟨bp, op, none⟩) Ar cb cn cs cr N) 29)).heap.size := by simp
  obtain ⟨x0, x1, x2, x3, x4, x5, x6, x7⟩ := boxAt_of (heap_alloc_new w (.cells (netCells Ab An (some ⟨bp, op, none⟩) Ar cb cn cs cr N) 29))
  clear hN hok hcr hsp q1 q2
  generalize N.spurs[k] = x at *
  obtain ⟨nm, dp, si, so, sw, sb⟩ := x
  simp only at hbd HSp h1 h2 hnm
  obtain ⟨j, hj⟩ : ∃ j, j = c - sb + 1 := ⟨_, rfl⟩
  have hj4 : 1 ≤ j ∧ j ≤ 4 := by omega
  rw [← hj] at CP ⊢
  have HJ := Lib.hid hj4
  clear hj hj4
  have CI := Lib.hid (fun W (hW : Below w.heap.size w W) => itoa_c j W (by have := HJ.out; omega) (by have := HJ.out; omega) (hp.keep hW))
  have hap1 : (⟨nm.toArray⟩ : ByteArray) ++ ⟨#[47]⟩ = ⟨(nm ++ [47]).toArray⟩ := bappS nm [47]
  have hap2 : (⟨(nm ++ [47]).toArray⟩ : ByteArray) ++ ⟨(dec j).toArray⟩ = ⟨(slotName nm j).toArray⟩ := bappS _ _
  have hdl : (dec j).length ≤ 1 := by
    obtain ⟨g1, g2⟩ := HJ.out
    have h4 : j = 1 ∨ j = 2 ∨ j = 3 ∨ j = 4 := by omega
    rcases h4 with rfl | rfl | rfl | rfl <;> decide
  have hr1 : ∀ W : World, (Op.stringOp .add (⟨nm.toArray⟩ : ByteArray) (⟨#[47]⟩ : ByteArray)).run Tryd.prog W = .ok (Sv (nm ++ [47])) W := fun W => by
    rw [run_string_add_sum _ _ _ (by show nm.length + 1 ≤ _; omega), hap1]
  have hr2 : ∀ W : World, (Op.stringOp .add (⟨(nm ++ [47]).toArray⟩ : ByteArray) (⟨(dec j).toArray⟩ : ByteArray)).run Tryd.prog W = .ok (Sv (slotName nm j)) W := fun W => by
    rw [run_string_add_sum _ _ _ (by show (nm ++ [47]).length + (dec j).length ≤ _; rw [List.length_append]; show nm.length + 1 + _ ≤ _; omega), hap2]
  clear hp hap1 hap2 hdl
  generalize slotName nm j = sn at *
  obtain ⟨nn, hnn⟩ : ∃ nn, nn = nm ++ [47] := ⟨_, rfl⟩
  rw [← hnn] at hr1 hr2
  clear hnn
  generalize dec j = dj at *
  go_enter Tryd.func22, Tryd.ntmps22
  go_wp2_with fail
  generalize w.alloc (.cells (netCells Ab An (some ⟨bp, op, none⟩) Ar cb cn cs cr N) 29) = w0 at *
  refine (CP.out _ hB0.out).mono ?_
  rintro e w1 ⟨rfl, hb1⟩
  have HB1 : Hid (Below w0.heap.size w0 w1) := Lib.hid hb1
  have HBw1 := Lib.hid (hB0.out.trans (hb1.mono (Nat.le_of_lt hsz0)))
  clear x0 x1 x2 x3 x4 x5 x6 x7 hb1 CP
  have HSX : Hid (∀ W, Below w1.heap.size w1 W → W.cell? ⟨w.heap.size, 2, none⟩ = some (.slice (some ⟨bp, op, none⟩) N.spurs.length cs) ∧ W.cell? ⟨bp, op + k * 6, none⟩ = some (Sv nm)) := Lib.hid (fun W hW => ⟨(HX.out.keep hsz0 (HB1.out.trans (hW.mono HB1.out.size))).c2, (HSp.out _ (HBw1.out.trans (hW.mono HBw1.out.size))).c0⟩)
  have HBW : Hid (∀ W, Below w1.heap.size w1 W → Below w.heap.size w W) := Lib.hid (fun W hW => HBw1.out.trans (hW.mono HBw1.out.size))
  obtain ⟨x2, c0⟩ := HSX.out _ (Below.refl _ _)
  clear HSp HX
  go_wp2_with fail
  go_region_held3 (fun W => W.cell? ⟨w.heap.size, 2, none⟩ = some (.slice (some ⟨bp, op, none⟩) N.spurs.length cs) ∧ W.cell? ⟨bp, op + k * 6, none⟩ = some (Sv nm)) (first | exact HSX.out _ ((Below.refl _ _).drew) | exact HSX.out _ HB2.out) (first | (go_at_call 42; refine (CI.out _ (HBW.out _ ((Below.refl _ _).drew))).mono ?_; rintro e w2 ⟨rfl, hb2⟩; have HB2 : Hid (Below w1.heap.size w1 w2) := Lib.hid (((Below.refl w1.heap.size w1).drew).trans hb2); clear hb2))
  all_goals
    have HBf := Lib.hid (HBW.out _ HB2.out)
    go_wp2
    go_ret2
    exact ⟨rfl, HBf.out⟩
end Go.Proofs.YtpdjcccpohnmcaaDoor
