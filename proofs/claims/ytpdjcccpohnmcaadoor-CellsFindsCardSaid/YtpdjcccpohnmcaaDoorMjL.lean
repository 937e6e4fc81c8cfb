/- Joined texts. -/
import Derived.Test.YtpdjcccpohnmcaaDoorMjE
import Derived.Test.YtpdjcccpohnmcaaDoorDcName
import Derived.Test.YtpdjcccpohnmcaaDoorFdDigits
namespace Go.Proofs.YtpdjcccpohnmcaaDoor
open Go Go.RowKit Fl

theorem len9 {N : NetD} {s : List Bool} (hok : NetOk N) (hsl : (s.length : Int) = cellsN N) : s.length ≤ 1000 ∧ N.blocks.length ≤ s.length := by
  have h := cellsN_le hok.few'
  have h3 := slotsK_bounds (l := N.spurs) (fun s hs => by have := (hok.spurOk s hs).slots; omega) N.spurs.length (Nat.le_refl _)
  have h5 : cellsN N = N.blocks.length + slotsK N.spurs N.spurs.length := rfl
  omega
set_option maxRecDepth 100000 in
set_option maxHeartbeats 4000000 in
theorem refOpenOf_c (Ab An As Ar B : Option Addr) (cb cn cs cr d : Nat) (N : NetD) (s : List Bool) (k : Int) (w : World) (hN : NetAt w Ab An As Ar N) (hl : NetLen N) (hcr : N.robots.length ≤ cr) (hs : Holds w B (s.map Bo)) (res : Bool) (er : Int)
    (hr : (¬ NetOk N ∧ res = false ∧ er = 20) ∨ (NetOk N ∧ ¬ ((s.length : Int) = cellsN N ∧ 0 ≤ k ∧ k < N.spurs.length) ∧ res = false ∧ er = 19) ∨ (NetOk N ∧ (s.length : Int) = cellsN N ∧ ∃ j : Nat, ∃ hj : j < N.spurs.length, k = j ∧ res = openS s N.spurs[j] ∧ er = 0)) :
    Calls Tryd.prog 21 #[.agg #[.slice Ab N.blocks.length cb, .slice An N.next.length cn, .slice As N.spurs.length cs, .slice Ar N.robots.length cr, Iv N.queue, Iv N.aging, Iv N.detours, Iv N.patience], .slice B s.length d, .int .i64 k] w fun e w' => e = .returned (.tuple #[.bool res, .int .i64 er]) ∧ Below w.heap.size w w' := by
  have CV := Lib.hid (fun W (hW : Below w.heap.size w W) => refValid_x Ab An As Ar cb cn cs cr N W (hN.keep hW) hl hcr)
  have CC := Lib.hid (fun W (hW : Below w.heap.size w W) (hok : NetOk N) => cells_c Ab An As Ar cb cn cs cr N W (hN.keep hW) hok.few')
  have hB0 := Lib.hid ((Below.refl w.heap.size w).alloc (Nat.le_refl _) (.cells (netCells Ab An As Ar cb cn cs cr N) 29))
  have HX := Lib.hid (boxAt_of (heap_alloc_new w (.cells (netCells Ab An As Ar cb cn cs cr N) 29)))
  have hsz0 : w.heap.size < (w.alloc (.cells (netCells Ab An As Ar cb cn cs cr N) 29)).heap.size := by simp
  obtain ⟨x0, x1, x2, x3, x4, x5, x6, x7⟩ := boxAt_of (heap_alloc_new w (.cells (netCells Ab An As Ar cb cn cs cr N) 29))
  rcases hr with ⟨hok, rfl, rfl⟩ | ⟨hok, hk, rfl, rfl⟩ | ⟨hok, hsl, j, hj, rfl, rfl, rfl⟩
  · have HNo := Lib.hid hok
    clear hN hl hcr hs hok CC HX
    go_enter Tryd.func21, Tryd.ntmps21
    go_wp2_with fail
    generalize w.alloc (.cells (netCells Ab An As Ar cb cn cs cr N) 29) = w0 at *
    refine (CV.out _ hB0.out).mono ?_
    intro e w1 hE
    obtain ⟨⟨hg, rfl⟩ | ⟨_, rfl⟩, hb1⟩ := hE.use
    · exact absurd hg HNo.out
    have HB1 := Lib.hid (hB0.out.trans (hb1.mono (Nat.le_of_lt hsz0)))
    clear x0 x1 x2 x3 x4 x5 x6 x7 hb1 CV hE
    go_wp2
    go_ret2
    exact ⟨rfl, HB1.out⟩
  · have HOk := Lib.hid hok
    have CC2 := Lib.hid (fun W hW => CC.out W hW hok)
    have hcs : k < 0 ∨ (¬ k < 0 ∧ (N.spurs.length : Int) ≤ k) ∨ (¬ k < 0 ∧ ¬ (N.spurs.length : Int) ≤ k ∧ ((s.length : Int) != cellsN N) = true) := by
      rw [bne_iff_ne]
      omega
    clear hN hl hcr hs hok CC hk
    generalize cellsN N = cN at *
    rcases hcs with h | ⟨h, h2⟩ | ⟨h, h2, h3⟩
    · skip
      go_enter Tryd.func21, Tryd.ntmps21
      go_wp2_with fail
      generalize w.alloc (.cells (netCells Ab An As Ar cb cn cs cr N) 29) = w0 at *
      refine (CV.out _ hB0.out).mono ?_
      intro e w1 hE
      obtain ⟨⟨_, rfl⟩ | ⟨hg, rfl⟩, hb1⟩ := hE.use
      rotate_left
      · exact absurd HOk.out hg
      clear CV hE CC2
      have HB1 : Hid (Below w0.heap.size w0 w1) := Lib.hid hb1
      have HBw1 := Lib.hid (hB0.out.trans (hb1.mono (Nat.le_of_lt hsz0)))
      clear x0 x1 x2 x3 x4 x5 x6 x7 hb1
      obtain ⟨x0, x1, x2, x3, x4, x5, x6, x7⟩ := HX.out.keep hsz0 HB1.out
      go_wp2
      go_ret2
      exact ⟨rfl, HBw1.out⟩
    · skip
      go_enter Tryd.func21, Tryd.ntmps21
      go_wp2_with fail
      generalize w.alloc (.cells (netCells Ab An As Ar cb cn cs cr N) 29) = w0 at *
      refine (CV.out _ hB0.out).mono ?_
      intro e w1 hE
      obtain ⟨⟨_, rfl⟩ | ⟨hg, rfl⟩, hb1⟩ := hE.use
      rotate_left
      · exact absurd HOk.out hg
      clear CV hE CC2
      have HB1 : Hid (Below w0.heap.size w0 w1) := Lib.hid hb1
      have HBw1 := Lib.hid (hB0.out.trans (hb1.mono (Nat.le_of_lt hsz0)))
      clear x0 x1 x2 x3 x4 x5 x6 x7 hb1
      obtain ⟨x0, x1, x2, x3, x4, x5, x6, x7⟩ := HX.out.keep hsz0 HB1.out
      go_wp2
      go_ret2
      exact ⟨rfl, HBw1.out⟩
    · skip
      go_enter Tryd.func21, Tryd.ntmps21
      go_wp2_with fail
      generalize w.alloc (.cells (netCells Ab An As Ar cb cn cs cr N) 29) = w0 at *
      refine (CV.out _ hB0.out).mono ?_
      intro e w1 hE
      obtain ⟨⟨_, rfl⟩ | ⟨hg, rfl⟩, hb1⟩ := hE.use
      rotate_left
      · exact absurd HOk.out hg
      clear CV hE
      have HB1 : Hid (Below w0.heap.size w0 w1) := Lib.hid hb1
      have HBw1 := Lib.hid (hB0.out.trans (hb1.mono (Nat.le_of_lt hsz0)))
      clear x0 x1 x2 x3 x4 x5 x6 x7 hb1
      obtain ⟨x0, x1, x2, x3, x4, x5, x6, x7⟩ := HX.out.keep hsz0 HB1.out
      go_wp2_with fail
      refine (CC2.out _ HBw1.out).mono ?_
      rintro e w2 ⟨rfl, hb2⟩
      have HB2 := Lib.hid (HBw1.out.trans (hb2.mono HBw1.out.size))
      clear x0 x1 x2 x3 x4 x5 x6 x7 hb2 CC2
      go_wp2
      go_ret2
      exact ⟨rfl, HB2.out⟩
  · have HOk := Lib.hid hok
    have CC2 := Lib.hid (fun W hW => CC.out W hW hok)
    have hsp := hok.spurIn _ (List.getElem_mem hj)
    rw [← hsl, Int.toNat_natCast] at hsp
    have CO := Lib.hid (fun W (hW : Below w.heap.size w W) => open_c Ab An As Ar B cb cn cs cr d N s j W (hN.keep hW) (hs.keep hW) hj (len9 hok hsl).1 hsp.inn hsp.out hsp.base)
    have h1 : ¬ (j : Int) < 0 := by omega
    have h2 : ¬ (N.spurs.length : Int) ≤ j := by omega
    have h3 : ((s.length : Int) != cellsN N) = false := by rw [hsl]; simp
    clear hN hl hcr hs hok CC hsl hsp
    generalize cellsN N = cN at *
    generalize openS s N.spurs[j] = res at *
    go_enter Tryd.func21, Tryd.ntmps21
    go_wp2_with fail
    generalize w.alloc (.cells (netCells Ab An As Ar cb cn cs cr N) 29) = w0 at *
    refine (CV.out _ hB0.out).mono ?_
    intro e w1 hE
    obtain ⟨⟨_, rfl⟩ | ⟨hg, rfl⟩, hb1⟩ := hE.use
    rotate_left
    · exact absurd HOk.out hg
    clear CV hE
    have HB1 : Hid (Below w0.heap.size w0 w1) := Lib.hid hb1
    have HBw1 := Lib.hid (hB0.out.trans (hb1.mono (Nat.le_of_lt hsz0)))
    clear x0 x1 x2 x3 x4 x5 x6 x7 hb1
    obtain ⟨x0, x1, x2, x3, x4, x5, x6, x7⟩ := HX.out.keep hsz0 HB1.out
    go_wp2_with fail
    refine (CC2.out _ HBw1.out).mono ?_
    rintro e w2 ⟨rfl, hb2⟩
    have HB2 : Hid (Below w0.heap.size w0 w2) := Lib.hid (HB1.out.trans (hb2.mono HB1.out.size))
    have HBw2 := Lib.hid (HBw1.out.trans (hb2.mono HBw1.out.size))
    clear x0 x1 x2 x3 x4 x5 x6 x7 hb2 CC2
    obtain ⟨x0, x1, x2, x3, x4, x5, x6, x7⟩ := HX.out.keep hsz0 HB2.out
    go_wp2_with fail
    refine (CO.out _ HBw2.out).mono ?_
    rintro e w3 ⟨rfl, hb3⟩
    have HB3 := Lib.hid (HBw2.out.trans (hb3.mono HBw2.out.size))
    clear x0 x1 x2 x3 x4 x5 x6 x7 hb3 CO
    go_wp2
    go_ret2
    exact ⟨rfl, HB3.out⟩
set_option maxRecDepth 100000 in
set_option maxHeartbeats 4000000 in
theorem refName_bad (Ab An As Ar : Option Addr) (cb cn cs cr : Nat) (N : NetD) (c : Int) (w : World) (hN : NetAt w Ab An As Ar N) (hl : NetLen N) (hcr : N.robots.length ≤ cr) (hz : cellE N c ≠ 0) :
    Calls Tryd.prog 23 #[.agg #[.slice Ab N.blocks.length cb, .slice An N.next.length cn, .slice As N.spurs.length cs, .slice Ar N.robots.length cr, Iv N.queue, Iv N.aging, Iv N.detours, Iv N.patience], .int .i64 c] w fun e w' => e = .returned (.tuple #[Sv [], .int .i64 (cellE N c)]) ∧ Below w.heap.size w w' := by
  have CE := Lib.hid (fun W (hW : Below w.heap.size w W) => refCell_c Ab An As Ar cb cn cs cr N c W (hN.keep hW) hl hcr)
  have hB0 := Lib.hid ((Below.refl w.heap.size w).alloc (Nat.le_refl _) (.cells (netCells Ab An As Ar cb cn cs cr N) 29))
  have HX := Lib.hid (boxAt_of (heap_alloc_new w (.cells (netCells Ab An As Ar cb cn cs cr N) 29)))
  have hsz0 : w.heap.size < (w.alloc (.cells (netCells Ab An As Ar cb cn cs cr N) 29)).heap.size := by simp
  obtain ⟨x0, x1, x2, x3, x4, x5, x6, x7⟩ := boxAt_of (heap_alloc_new w (.cells (netCells Ab An As Ar cb cn cs cr N) 29))
  have hzb : (cellE N c != 0) = true := by rw [bne_iff_ne]; exact hz
  generalize cellE N c = z at *
  clear hN hl hcr hz HX
  go_enter Tryd.func23, Tryd.ntmps23
  go_wp2_with fail
  generalize w.alloc (.cells (netCells Ab An As Ar cb cn cs cr N) 29) = w0 at *
  refine (CE.out _ hB0.out).mono ?_
  rintro e w1 ⟨rfl, hb1⟩
  have HB1 := Lib.hid (hB0.out.trans (hb1.mono (Nat.le_of_lt hsz0)))
  clear x0 x1 x2 x3 x4 x5 x6 x7 hb1 CE
  go_wp2
  go_ret2
  exact ⟨rfl, HB1.out⟩
set_option maxRecDepth 100000 in
set_option maxHeartbeats 4000000 in
theorem refNameB_c (Ab An As Ar : Option Addr) (cb cn cs cr : Nat) (b : Nat) (N : NetD) (w : World) (hN : NetAt w Ab An As Ar N) (hl : NetLen N) (hcr : N.robots.length ≤ cr) (hok : NetOk N) (hb : b < N.blocks.length) :
    Calls Tryd.prog 23 #[.agg #[.slice Ab N.blocks.length cb, .slice An N.next.length cn, .slice As N.spurs.length cs, .slice Ar N.robots.length cr, Iv N.queue, Iv N.aging, Iv N.detours, Iv N.patience], .int .i64 b] w fun e w' => e = .returned (.tuple #[Sv N.blocks[b].name, .int .i64 0]) ∧ Below w.heap.size w w' := by
  have CE := Lib.hid (fun W (hW : Below w.heap.size w W) => by
    have h := refCell_c Ab An As Ar cb cn cs cr N b W (hN.keep hW) hl hcr
    rw [cellE_ok hok ⟨by omega, by have := hok.cells_ge; omega⟩] at h
    exact h)
  have CP := Lib.hid (fun W (hW : Below w.heap.size w W) => by
    have h := refPlace_c Ab An As Ar cb cn cs cr N b W (hN.keep hW) hok.spurs6 hok.bounds
    rw [hok.findBlock (c := (b : Int)) (by omega)] at h
    exact h)
  obtain ⟨bp, op, rfl, hbp, hsp⟩ := hN.blocks.block hb
  have HBl : Hid (∀ W, Below w.heap.size w W → BlockAt W bp (op + b * 3) N.blocks[b]) := Lib.hid (fun W hW => hsp.keep hbp hW)
  have hB0 := Lib.hid ((Below.refl w.heap.size w).alloc (Nat.le_refl _) (.cells (netCells (some ⟨bp, op, none⟩) An As Ar cb cn cs cr N) 29))
  have HX := Lib.hid (boxAt_of (heap_alloc_new w (.cells (netCells (some ⟨bp, op, none⟩) An As Ar cb cn cs cr N) 29)))
  have hsz0 : w.heap.size < (w.alloc (.cells (netCells (some ⟨bp, op, none⟩) An As Ar cb cn cs cr N) 29)).heap.size := by simp
  obtain ⟨x0, x1, x2, x3, x4, x5, x6, x7⟩ := boxAt_of (heap_alloc_new w (.cells (netCells (some ⟨bp, op, none⟩) An As Ar cb cn cs cr N) 29))
  clear hN hok hl hcr hsp
  generalize N.blocks[b] = x at *
  obtain ⟨nm, bx, by_⟩ := x
  try simp only at HBl
  go_enter Tryd.func23, Tryd.ntmps23
  go_wp2_with fail
  generalize w.alloc (.cells (netCells (some ⟨bp, op, none⟩) An As Ar cb cn cs cr N) 29) = w0 at *
  refine (CE.out _ hB0.out).mono ?_
  rintro e w1 ⟨rfl, hb1⟩
  clear CE
  have HB1 : Hid (Below w0.heap.size w0 w1) := Lib.hid hb1
  have HBw1 := Lib.hid (hB0.out.trans (hb1.mono (Nat.le_of_lt hsz0)))
  clear x0 x1 x2 x3 x4 x5 x6 x7 hb1
  obtain ⟨x0, x1, x2, x3, x4, x5, x6, x7⟩ := HX.out.keep hsz0 HB1.out
  go_wp2_with fail
  refine (CP.out _ HBw1.out).mono ?_
  rintro e w2 ⟨rfl, hb2⟩
  have HB2 : Hid (Below w0.heap.size w0 w2) := Lib.hid (HB1.out.trans (hb2.mono HB1.out.size))
  have HBw2 := Lib.hid (HBw1.out.trans (hb2.mono HBw1.out.size))
  clear x0 x1 x2 x3 x4 x5 x6 x7 hb2 CP
  obtain ⟨x0, x1, x2, x3, x4, x5, x6, x7⟩ := HX.out.keep hsz0 HB2.out
  obtain ⟨c0, c1, c2⟩ := HBl.out _ HBw2.out
  simp only at c0 c1 c2
  go_wp2
  go_ret2
  exact ⟨rfl, HBw2.out⟩
set_option maxRecDepth 100000 in
set_option maxHeartbeats 4000000 in
theorem refNameS_c (Ab An As Ar : Option Addr) (cb cn cs cr : Nat) (k : Nat) (N : NetD) (c : Int) (w : World) (hN : NetAt w Ab An As Ar N) (hl : NetLen N) (hcr : N.robots.length ≤ cr) (hok : NetOk N) (hk : k < N.spurs.length) (h1 : N.spurs[k].base ≤ c) (h2 : c < N.spurs[k].base + N.spurs[k].slots) :
    Calls Tryd.prog 23 #[.agg #[.slice Ab N.blocks.length cb, .slice An N.next.length cn, .slice As N.spurs.length cs, .slice Ar N.robots.length cr, Iv N.queue, Iv N.aging, Iv N.detours, Iv N.patience], .int .i64 c] w fun e w' => e = .returned (.tuple #[Sv (slotName N.spurs[k].name (c - N.spurs[k].base + 1)), .int .i64 0]) ∧ Below w.heap.size w w' := by
  have CE := Lib.hid (fun W (hW : Below w.heap.size w W) => by
    have h := refCell_c Ab An As Ar cb cn cs cr N c W (hN.keep hW) hl hcr
    rw [cellE_ok hok ⟨by have := hok.base_ge hk; omega, by have := hok.cell_lt hk; omega⟩] at h
    exact h)
  have CP := Lib.hid (fun W (hW : Below w.heap.size w W) => by
    have h := refPlace_c Ab An As Ar cb cn cs cr N c W (hN.keep hW) hok.spurs6 hok.bounds
    rw [hok.findIn hk h1 h2] at h
    exact h)
  have hbd := hok.bounds _ (List.getElem_mem hk)
  obtain ⟨bp, op, rfl, hbp, hsp⟩ := hN.spurs.spur hk
  have HSp : Hid (∀ W, Below w.heap.size w W → SpurAt W bp (op + k * 6) N.spurs[k]) := Lib.hid (fun W hW => hsp.keep hbp hW)
  have h6 := hok.spurs6
  have hnm := name_short (hok.named _ (show N.spurs[k].name ∈ namesN N from List.mem_append_right _ (List.mem_map_of_mem (List.getElem_mem hk))))
  have hB0 := Lib.hid ((Below.refl w.heap.size w).alloc (Nat.le_refl _) (.cells (netCells Ab An (some ⟨bp, op, none⟩) Ar cb cn cs cr N) 29))
  have HX := Lib.hid (boxAt_of (heap_alloc_new w (.cells (netCells Ab An (some ⟨bp, op, none⟩) Ar cb cn cs cr N) 29)))
  have hsz0 : w.heap.size < (w.alloc (.cells (netCells Ab An (some ⟨bp, op, none⟩) Ar cb cn cs cr N) 29)).heap.size := by simp
  obtain ⟨x0, x1, x2, x3, x4, x5, x6, x7⟩ := boxAt_of (heap_alloc_new w (.cells (netCells Ab An (some ⟨bp, op, none⟩) Ar cb cn cs cr N) 29))
  clear hN hok hl hcr hsp
  generalize N.spurs[k] = x at *
  obtain ⟨nm, dp, si, so, sw, sb⟩ := x
  simp only at hbd HSp h1 h2 hnm CP
  obtain ⟨j, hj⟩ : ∃ j, j = c - sb + 1 := ⟨_, rfl⟩
  have hj4 : 1 ≤ j ∧ j ≤ 4 := by omega
  rw [← hj] at CP ⊢
  have HJ := Lib.hid hj4
  clear hj hj4
  have CI := Lib.hid (fun W => digits_nn j W (by have := HJ.out; omega) (by have := HJ.out; omega))
  have hap1 : (⟨nm.toArray⟩ : ByteArray) ++ ⟨#[47]⟩ = ⟨(nm ++ [47]).toArray⟩ := bappS nm [47]
  have hap2 : (⟨(nm ++ [47]).toArray⟩ : ByteArray) ++ ⟨(dec j).toArray⟩ = ⟨(slotName nm j).toArray⟩ := bappS _ _
  have hdl : (dec j).length ≤ 1 := by
    obtain ⟨g1, g2⟩ := HJ.out
    have h4 : j = 1 ∨ j = 2 ∨ j = 3 ∨ j = 4 := by omega
    rcases h4 with rfl | rfl | rfl | rfl <;> decide
  have hr1 : ∀ W : World, (Op.stringOp .add (⟨nm.toArray⟩ : ByteArray) (⟨#[47]⟩ : ByteArray)).run Tryd.prog W = .ok (Sv (nm ++ [47])) W := fun W => by
    rw [run_string_add_sum _ _ _ (by show nm.length + 1 ≤ _; omega), hap1]
  have hr2 : ∀ W : World, (Op.stringOp .add (⟨(nm ++ [47]).toArray⟩ : ByteArray) (⟨(dec j).toArray⟩ : ByteArray)).run Tryd.prog W = .ok (Sv (slotName nm j)) W := fun W => by
    rw [run_string_add_sum _ _ _ (by show (nm ++ [47]).length + (dec j).length ≤ _; rw [List.length_append]; show nm.length + 1 + _ ≤ _; omega), hap2]
  clear hap1 hap2 hdl
  generalize slotName nm j = sn at *
  obtain ⟨nn, hnn⟩ : ∃ nn, nn = nm ++ [47] := ⟨_, rfl⟩
  rw [← hnn] at hr1 hr2
  clear hnn
  generalize dec j = dj at *
  go_enter Tryd.func23, Tryd.ntmps23
  go_wp2_with fail
  generalize w.alloc (.cells (netCells Ab An (some ⟨bp, op, none⟩) Ar cb cn cs cr N) 29) = w0 at *
  refine (CE.out _ hB0.out).mono ?_
  rintro e w1 ⟨rfl, hb1⟩
  clear CE
  have HB1 : Hid (Below w0.heap.size w0 w1) := Lib.hid hb1
  have HBw1 := Lib.hid (hB0.out.trans (hb1.mono (Nat.le_of_lt hsz0)))
  clear x0 x1 x2 x3 x4 x5 x6 x7 hb1
  obtain ⟨x0, x1, x2, x3, x4, x5, x6, x7⟩ := HX.out.keep hsz0 HB1.out
  go_wp2_with fail
  refine (CP.out _ HBw1.out).mono ?_
  rintro e w2 ⟨rfl, hb2⟩
  have HB2 : Hid (Below w0.heap.size w0 w2) := Lib.hid (HB1.out.trans (hb2.mono HB1.out.size))
  have HBw2 := Lib.hid (HBw1.out.trans (hb2.mono HBw1.out.size))
  clear x0 x1 x2 x3 x4 x5 x6 x7 hb2 CP
  have HSX : Hid (∀ W, Below w2.heap.size w2 W → W.cell? ⟨w.heap.size, 2, none⟩ = some (.slice (some ⟨bp, op, none⟩) N.spurs.length cs) ∧ W.cell? ⟨bp, op + k * 6, none⟩ = some (Sv nm)) := Lib.hid (fun W hW => ⟨(HX.out.keep hsz0 (HB2.out.trans (hW.mono HB2.out.size))).c2, (HSp.out _ (HBw2.out.trans (hW.mono HBw2.out.size))).c0⟩)
  have HBW : Hid (∀ W, Below w2.heap.size w2 W → Below w.heap.size w W) := Lib.hid (fun W hW => HBw2.out.trans (hW.mono HBw2.out.size))
  obtain ⟨x2, c0⟩ := HSX.out _ (Below.refl _ _)
  clear HSp HX
  go_wp2_with fail
  go_region_held3 (fun W => W.cell? ⟨w.heap.size, 2, none⟩ = some (.slice (some ⟨bp, op, none⟩) N.spurs.length cs) ∧ W.cell? ⟨bp, op + k * 6, none⟩ = some (Sv nm)) (first | exact HSX.out _ ((Below.refl _ _).drew) | exact HSX.out _ HB3.out) (first | (go_at_call 43; refine (CI.out _).mono ?_; rintro e w3 ⟨rfl, hb3⟩; have HB3 : Hid (Below w2.heap.size w2 w3) := Lib.hid (((Below.refl w2.heap.size w2).drew).trans hb3); clear hb3))
  all_goals
    have HBf := Lib.hid (HBW.out _ HB3.out)
    go_wp2
    go_ret2
    exact ⟨rfl, HBf.out⟩
end Go.Proofs.YtpdjcccpohnmcaaDoor
namespace Go.Proofs.YtpdjcccpohnmcaaDoor
open Go Go.RowKit Fl

/-- Both calls answer the same. -/
theorem count_pair (Ab An As Ar : Option Addr) (cb cn cs cr : Nat) (N : NetD) (w : World) (hN : NetAt w Ab An As Ar N) (hl : NetLen N) (hcr : N.robots.length ≤ cr) :
    ∃ z er : Int, (∀ W, Below w.heap.size w W → Calls Tryd.prog 9 #[.agg #[.slice Ab N.blocks.length cb, .slice An N.next.length cn, .slice As N.spurs.length cs, .slice Ar N.robots.length cr, Iv N.queue, Iv N.aging, Iv N.detours, Iv N.patience]] W fun e w' => e = .returned (.tuple #[.int .i64 z, .int .i64 er]) ∧ Below W.heap.size W w') ∧ (∀ W, Below w.heap.size w W → Calls Tryd.prog 10 #[.agg #[.slice Ab N.blocks.length cb, .slice An N.next.length cn, .slice As N.spurs.length cs, .slice Ar N.robots.length cr, Iv N.queue, Iv N.aging, Iv N.detours, Iv N.patience]] W fun e w' => e = .returned (.tuple #[.int .i64 z, .int .i64 er]) ∧ Below W.heap.size W w') := by
  refine ⟨(countX N).1, (countX N).2, fun W hW => ?_, fun W hW => refCount_c Ab An As Ar cb cn cs cr N W (hN.keep hW) hl hcr⟩
  by_cases hok : NetOk N
  · rw [show countX N = (cellsN N, 0) from if_pos hok]
    exact count_c Ab An As Ar cb cn cs cr N W (hN.keep hW) hok hcr
  · rw [show countX N = (0, 20) from if_neg hok]
    exact count_none Ab An As Ar cb cn cs cr N W (hN.keep hW) hl hok hcr
/-- Both calls answer the same. -/
theorem place_pair (Ab An As Ar : Option Addr) (cb cn cs cr : Nat) (N : NetD) (c : Int) (w : World) (hN : NetAt w Ab An As Ar N) (hl : NetLen N) (hcr : N.robots.length ≤ cr) :
    ∃ z1 z2 er : Int, (∀ W, Below w.heap.size w W → Calls Tryd.prog 11 #[.agg #[.slice Ab N.blocks.length cb, .slice An N.next.length cn, .slice As N.spurs.length cs, .slice Ar N.robots.length cr, Iv N.queue, Iv N.aging, Iv N.detours, Iv N.patience], .int .i64 c] W fun e w' => e = .returned (.tuple #[.int .i64 z1, .int .i64 z2, .int .i64 er]) ∧ Below W.heap.size W w') ∧ (∀ W, Below w.heap.size w W → Calls Tryd.prog 12 #[.agg #[.slice Ab N.blocks.length cb, .slice An N.next.length cn, .slice As N.spurs.length cs, .slice Ar N.robots.length cr, Iv N.queue, Iv N.aging, Iv N.detours, Iv N.patience], .int .i64 c] W fun e w' => e = .returned (.tuple #[.int .i64 z1, .int .i64 z2, .int .i64 er]) ∧ Below W.heap.size W w') :=
  ⟨_, _, _, fun W hW => placeX_c Ab An As Ar cb cn cs cr N c W (hN.keep hW) hl hcr, fun W hW => refPlaceOf_c Ab An As Ar cb cn cs cr N c W (hN.keep hW) hl hcr⟩
/-- Both calls answer the same. -/
theorem head_pair (Ab An As Ar : Option Addr) (cb cn cs cr : Nat) (N : NetD) (k : Int) (w : World) (hN : NetAt w Ab An As Ar N) (hl : NetLen N) (hcr : N.robots.length ≤ cr) :
    ∃ z er : Int, (∀ W, Below w.heap.size w W → Calls Tryd.prog 15 #[.agg #[.slice Ab N.blocks.length cb, .slice An N.next.length cn, .slice As N.spurs.length cs, .slice Ar N.robots.length cr, Iv N.queue, Iv N.aging, Iv N.detours, Iv N.patience], .int .i64 k] W fun e w' => e = .returned (.tuple #[.int .i64 z, .int .i64 er]) ∧ Below W.heap.size W w') ∧ (∀ W, Below w.heap.size w W → Calls Tryd.prog 16 #[.agg #[.slice Ab N.blocks.length cb, .slice An N.next.length cn, .slice As N.spurs.length cs, .slice Ar N.robots.length cr, Iv N.queue, Iv N.aging, Iv N.detours, Iv N.patience], .int .i64 k] W fun e w' => e = .returned (.tuple #[.int .i64 z, .int .i64 er]) ∧ Below W.heap.size W w') := by
  by_cases hz : ¬ NetOk N ∨ ¬ (0 ≤ k ∧ k < N.spurs.length)
  · exact ⟨0, spurE N k, fun W hW => head_bad Ab An As Ar cb cn cs cr k N W (hN.keep hW) hl hcr hz, fun W hW => refHeadOf_bad Ab An As Ar cb cn cs cr k N W (hN.keep hW) hl hcr hz⟩
  · have hok : NetOk N := Classical.not_not.1 (fun h => hz (.inl h))
    have hk : 0 ≤ k ∧ k < N.spurs.length := Classical.not_not.1 (fun h => hz (.inr h))
    obtain ⟨j, rfl⟩ := Int.eq_ofNat_of_zero_le hk.1
    have hj : j < N.spurs.length := by omega
    exact ⟨N.spurs[j].base + N.spurs[j].slots - 1, 0, fun W hW => head_c Ab An As Ar cb cn cs cr j N W (hN.keep hW) hok hcr hj, fun W hW => refHeadOf_ok Ab An As Ar cb cn cs cr j N W (hN.keep hW) hl hcr hok hj⟩
/-- Both calls answer the same. -/
theorem open_pair (Ab An As Ar B : Option Addr) (cb cn cs cr d : Nat) (N : NetD) (s : List Bool) (k : Int) (w : World) (hN : NetAt w Ab An As Ar N) (hl : NetLen N) (hcr : N.robots.length ≤ cr) (hs : Holds w B (s.map Bo)) (hd : s.length ≤ d) :
    ∃ (z : Bool) (er : Int), (∀ W, Below w.heap.size w W → Calls Tryd.prog 20 #[.agg #[.slice Ab N.blocks.length cb, .slice An N.next.length cn, .slice As N.spurs.length cs, .slice Ar N.robots.length cr, Iv N.queue, Iv N.aging, Iv N.detours, Iv N.patience], .slice B s.length d, .int .i64 k] W fun e w' => e = .returned (.tuple #[.bool z, .int .i64 er]) ∧ Below W.heap.size W w') ∧ (∀ W, Below w.heap.size w W → Calls Tryd.prog 21 #[.agg #[.slice Ab N.blocks.length cb, .slice An N.next.length cn, .slice As N.spurs.length cs, .slice Ar N.robots.length cr, Iv N.queue, Iv N.aging, Iv N.detours, Iv N.patience], .slice B s.length d, .int .i64 k] W fun e w' => e = .returned (.tuple #[.bool z, .int .i64 er]) ∧ Below W.heap.size W w') := by
  by_cases hok : NetOk N
  · by_cases hk : (s.length : Int) = cellsN N ∧ 0 ≤ k ∧ k < N.spurs.length
    · obtain ⟨hsl, hk0, hk1⟩ := hk
      obtain ⟨j, rfl⟩ := Int.eq_ofNat_of_zero_le hk0
      have hj : j < N.spurs.length := by omega
      exact ⟨openS s N.spurs[j], 0, fun W hW => devOpen_c Ab An As Ar B cb cn cs cr d j N s W (hN.keep hW) hok hcr (hs.keep hW) hsl hd hj, fun W hW => refOpenOf_c Ab An As Ar B cb cn cs cr d N s j W (hN.keep hW) hl hcr (hs.keep hW) _ _ (.inr (.inr ⟨hok, hsl, j, hj, rfl, rfl, rfl⟩))⟩
    · exact ⟨false, 19, fun W hW => open_bad Ab An As Ar B cb cn cs cr d k N s W (hN.keep hW) hl hcr 19 (.inr ⟨hok, hk, rfl⟩), fun W hW => refOpenOf_c Ab An As Ar B cb cn cs cr d N s k W (hN.keep hW) hl hcr (hs.keep hW) _ _ (.inr (.inl ⟨hok, hk, rfl, rfl⟩))⟩
  · exact ⟨false, 20, fun W hW => open_bad Ab An As Ar B cb cn cs cr d k N s W (hN.keep hW) hl hcr 20 (.inl ⟨hok, rfl⟩), fun W hW => refOpenOf_c Ab An As Ar B cb cn cs cr d N s k W (hN.keep hW) hl hcr (hs.keep hW) _ _ (.inl ⟨hok, rfl, rfl⟩)⟩
/-- Both calls answer the same. -/
theorem name_pair (Ab An As Ar : Option Addr) (cb cn cs cr : Nat) (N : NetD) (c : Int) (w : World) (hN : NetAt w Ab An As Ar N) (hl : NetLen N) (hcr : N.robots.length ≤ cr) (hp : Pows w) :
    ∃ (nm : List UInt8) (er : Int), (∀ W, Below w.heap.size w W → Calls Tryd.prog 22 #[.agg #[.slice Ab N.blocks.length cb, .slice An N.next.length cn, .slice As N.spurs.length cs, .slice Ar N.robots.length cr, Iv N.queue, Iv N.aging, Iv N.detours, Iv N.patience], .int .i64 c] W fun e w' => e = .returned (.tuple #[Sv nm, .int .i64 er]) ∧ Below W.heap.size W w') ∧ (∀ W, Below w.heap.size w W → Calls Tryd.prog 23 #[.agg #[.slice Ab N.blocks.length cb, .slice An N.next.length cn, .slice As N.spurs.length cs, .slice Ar N.robots.length cr, Iv N.queue, Iv N.aging, Iv N.detours, Iv N.patience], .int .i64 c] W fun e w' => e = .returned (.tuple #[Sv nm, .int .i64 er]) ∧ Below W.heap.size W w') := by
  by_cases h1 : cellE N c = 0
  · obtain ⟨hok, hin⟩ := cellE_zero h1
    by_cases hb : c < N.blocks.length
    · obtain ⟨b, rfl⟩ := Int.eq_ofNat_of_zero_le hin.1
      have hb' : b < N.blocks.length := by omega
      exact ⟨N.blocks[b].name, 0, fun W hW => nameB_c Ab An As Ar cb cn cs cr b N W (hN.keep hW) hok hcr hb', fun W hW => refNameB_c Ab An As Ar cb cn cs cr b N W (hN.keep hW) hl hcr hok hb'⟩
    · obtain ⟨k, hk, g1, g2⟩ := hok.inSpur (c := c) (by omega) hin.2
      exact ⟨_, 0, fun W hW => nameS_c Ab An As Ar cb cn cs cr k N c W (hN.keep hW) hok hcr (hp.keep hW) hk g1 g2, fun W hW => refNameS_c Ab An As Ar cb cn cs cr k N c W (hN.keep hW) hl hcr hok hk g1 g2⟩
  · exact ⟨[], cellE N c, fun W hW => name_bad Ab An As Ar cb cn cs cr c N W (hN.keep hW) hl hcr h1, fun W hW => refName_bad Ab An As Ar cb cn cs cr N c W (hN.keep hW) hl hcr h1⟩
end Go.Proofs.YtpdjcccpohnmcaaDoor
