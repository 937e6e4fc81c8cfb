/- CellsFinds returns true, for every network, list of shut cells, numbers and list of numbers. -/
import Derived.Test.YtpdjcccpohnmcaaDoorMjL
import Derived.Test.YtpdjcccpohnmcaaDoorDcExample
import Derived.Test.YtpdjcccpohnmcaaDoorMjF
import Derived.Deep.RegionHeld3
import Derived.Deep.DeepCutAuto
namespace Go.Proofs.YtpdjcccpohnmcaaDoor
open Go Go.RowKit Fl

set_option maxRecDepth 100000 in
set_option maxHeartbeats 8000000 in
theorem cellsFinds_c (Ab An As Ar B C : Option Addr) (cb cn cs cr d kc : Nat) (N : NetD) (s : List Bool) (b f v2 : Int) (zs : List Int) (w : World) (hN : NetAt w Ab An As Ar N) (hl : NetLen N) (hcr : N.robots.length ≤ cr) (hs : Holds w B (s.map Bo)) (hd : s.length ≤ d) (hz : IntsAt w w.heap.size C zs) (hzl : zs.length ≤ maxLen) (hp : Pows w) :
    Calls Tryd.prog 3 #[.agg #[.slice Ab N.blocks.length cb, .slice An N.next.length cn, .slice As N.spurs.length cs, .slice Ar N.robots.length cr, Iv N.queue, Iv N.aging, Iv N.detours, Iv N.patience], .slice B s.length d, .agg #[Iv b, Iv f, Iv v2], .slice C zs.length kc] w fun e w' => e = .returned (.bool true) ∧ Below w.heap.size w w' := by
  have HN := Lib.hid hN
  have HLn := Lib.hid hl
  have HHs := Lib.hid hs
  have HZ := Lib.hid hz
  have HZl := Lib.hid hzl
  have HCr := Lib.hid hcr
  have HD := Lib.hid hd
  have HPw := Lib.hid hp
  have CK := Lib.hid (fun W (hW : Below w.heap.size w W) => known9_c W (hp.keep hW))
  have hb0 : Below w.heap.size w ((w.alloc (.cells (netCells Ab An As Ar cb cn cs cr N) 29)).alloc (.cells #[Iv b, Iv f, Iv v2] 31)) := ((Below.refl _ _).alloc (Nat.le_refl _) _).alloc (by simp) _
  have HB0 := Lib.hid hb0
  have s1 : (w.alloc (.cells (netCells Ab An As Ar cb cn cs cr N) 29)).heap.size = w.heap.size + 1 := by simp
  have HX0 : Hid (((w.alloc (.cells (netCells Ab An As Ar cb cn cs cr N) 29)).alloc (.cells #[Iv b, Iv f, Iv v2] 31)).heap[w.heap.size]? = some (.cells (netCells Ab An As Ar cb cn cs cr N) 29 (0, 0))) := Lib.hid ((Below.heap_alloc _ _ _ (by rw [s1]; omega)).trans (heap_alloc_new w _))
  have HY0 : Hid (((w.alloc (.cells (netCells Ab An As Ar cb cn cs cr N) 29)).alloc (.cells #[Iv b, Iv f, Iv v2] 31)).heap[w.heap.size + 1]? = some (.cells #[Iv b, Iv f, Iv v2] 31 (0, 0))) := Lib.hid (by
    have h := heap_alloc_new (w.alloc (.cells (netCells Ab An As Ar cb cn cs cr N) 29)) (.cells #[Iv b, Iv f, Iv v2] 31)
    rw [s1] at h
    exact h)
  have s2 : w.heap.size + 2 = ((w.alloc (.cells (netCells Ab An As Ar cb cn cs cr N) 29)).alloc (.cells #[Iv b, Iv f, Iv v2] 31)).heap.size := by simp
  clear hN hl hs hz hzl hb0 s1 hcr hd hp
  go_enter Tryd.func3, Tryd.ntmps3
  go_wp2_with fail
  generalize (w.alloc (.cells (netCells Ab An As Ar cb cn cs cr N) 29)).alloc (.cells #[Iv b, Iv f, Iv v2] 31) = w0 at *
  refine (CK.out _ HB0.out).mono ?_
  rintro e w1 ⟨rfl, hb1⟩
  have HB1 := Lib.hid (HB0.out.trans (hb1.mono (by omega)))
  have HX1 := Lib.hid ((hb1.block w.heap.size (by omega)).trans HX0.out)
  have HY1 := Lib.hid ((hb1.block (w.heap.size + 1) (by omega)).trans HY0.out)
  have hs1 : w.heap.size + 2 ≤ w1.heap.size := by have := hb1.size; omega
  have HT2 := Lib.hid (tape_new (c := kc) HZ.out (Nat.le_refl _) HB1.out HZl.out)
  have HB2 : Hid (Below w.heap.size w (w1.alloc (.cells #[.slice C zs.length kc, .int .i64 0] 35))) := Lib.hid (HB1.out.alloc HB1.out.size _)
  have HX2 : Hid ((w1.alloc (.cells #[.slice C zs.length kc, .int .i64 0] 35)).heap[w.heap.size]? = some (.cells (netCells Ab An As Ar cb cn cs cr N) 29 (0, 0))) := Lib.hid ((heap_alloc_old w1 _ (by omega)).trans HX1.out)
  have HY2 : Hid ((w1.alloc (.cells #[.slice C zs.length kc, .int .i64 0] 35)).heap[w.heap.size + 1]? = some (.cells #[Iv b, Iv f, Iv v2] 31 (0, 0))) := Lib.hid ((heap_alloc_old w1 _ (by omega)).trans HY1.out)
  have hs2 : w1.heap.size + 1 = (w1.alloc (.cells #[.slice C zs.length kc, .int .i64 0] 35)).heap.size := by simp
  clear hb1 CK HX0 HY0 HX1 HY1 HB0 HB1 s2 HZ HZl
  go_wp2
  generalize w1.alloc (.cells #[.slice C zs.length kc, .int .i64 0] 35) = w2 at *
  generalize hgt : w1.heap.size = gt at *
  clear hgt
  go_loopw [1, 10] (fun c i wr => (i = .int .i64 0 ∧ c = .slice B s.length d ∧ wr = w2) ∨ (i = .int .i64 1 ∧ Hid (Below w2.heap.size w2 wr)) ∨ (i = .int .i64 2 ∧ Hid (Below w.heap.size w wr))) (fun _ i _ => 2 - (intOf i).toNat)
  case atStart => exact .inl ⟨rfl, rfl, rfl⟩
  case round =>
    rcases hrel with ⟨rfl, rfl, rfl⟩ | ⟨rfl, HW⟩ | ⟨rfl, HW⟩
    · have hNt := HN.out.keep HB2.out
      have hLn := HLn.out
      have hCr := HCr.out
      have hHs := HHs.out.keep HB2.out
      have hD := HD.out
      have hPw := HPw.out.keep HB2.out
      have HBX := Lib.hid (fun W (hW : Below wr.heap.size wr W) => boxAt_of ((hW.block _ (block_lt HX2.out)).trans HX2.out))
      have HY := Lib.hid (fun W (hW : Below wr.heap.size wr W) => three_c ((hW.block _ (block_lt HY2.out)).trans HY2.out))
      obtain ⟨z1, r1, C1, C2⟩ := count_pair Ab An As Ar cb cn cs cr N wr hNt hLn hCr
      obtain ⟨z2, z3, r2, C3, C4⟩ := place_pair Ab An As Ar cb cn cs cr N b wr hNt hLn hCr
      obtain ⟨z4, C5, C6⟩ := follows_pair Ab An As Ar cb cn cs cr N b f wr hNt hLn hCr
      obtain ⟨z5, r3, C7, C8⟩ := head_pair Ab An As Ar cb cn cs cr N v2 wr hNt hLn hCr
      obtain ⟨xs, r4, hxs, C9, C10⟩ := next_pair Ab An As Ar cb cn cs cr N b wr hNt hLn hCr
      obtain ⟨z6, r5, C11, C12⟩ := open_pair Ab An As Ar B cb cn cs cr d N s v2 wr hNt hLn hCr hHs hD
      obtain ⟨nm, r6, C13, C14⟩ := name_pair Ab An As Ar cb cn cs cr N b wr hNt hLn hCr hPw
      have C1 := Lib.hid C1
      have C2 := Lib.hid C2
      have C3 := Lib.hid C3
      have C4 := Lib.hid C4
      have C5 := Lib.hid (laterC C5)
      have C6 := Lib.hid (laterC C6)
      have C7 := Lib.hid C7
      have C8 := Lib.hid C8
      have C9 := Lib.hid C9
      have C10 := Lib.hid C10
      have C11 := Lib.hid C11
      have C12 := Lib.hid C12
      have C13 := Lib.hid C13
      have C14 := Lib.hid C14
      have n1 : (z1 != z1) = false := by simp
      have n2 : (r1 != r1) = false := by simp
      have n3 : (z2 != z2) = false := by simp
      have n4 : (z3 != z3) = false := by simp
      have n5 : (r2 != r2) = false := by simp
      have n6 : (z4 != z4) = false := by simp
      have n7 : (z5 != z5) = false := by simp
      have n8 : (r3 != r3) = false := by simp
      have n9 : (r4 != r4) = false := by simp
      have n10 : (z6 != z6) = false := by simp
      have n11 : (r5 != r5) = false := by simp
      have n12 : (r6 != r6) = false := by simp
      have HXS := Lib.hid hxs
      clear hNt hLn hCr hHs hD hPw hxs
      obtain ⟨x0, x1, x2, x3, x4, x5, x6, x7⟩ := HBX.out _ (Below.refl _ _)
      obtain ⟨y0, y1, y2⟩ := HY.out _ (Below.refl _ _)
      go_wp2_with fail
      refine (C1.out _ (Below.refl _ _)).mono ?_
      rintro e u1 ⟨rfl, hb⟩
      have HU1 := Lib.hid hb
      clear x0 x1 x2 x3 x4 x5 x6 x7 y0 y1 y2 hb
      obtain ⟨x0, x1, x2, x3, x4, x5, x6, x7⟩ := HBX.out _ HU1.out
      obtain ⟨y0, y1, y2⟩ := HY.out _ HU1.out
      go_wp2_with fail
      refine (C2.out _ HU1.out).mono ?_
      rintro e u2 ⟨rfl, hb⟩
      have HU2 := Lib.hid (HU1.out.trans (hb.mono HU1.out.size))
      clear x0 x1 x2 x3 x4 x5 x6 x7 y0 y1 y2 hb
      obtain ⟨x0, x1, x2, x3, x4, x5, x6, x7⟩ := HBX.out _ HU2.out
      obtain ⟨y0, y1, y2⟩ := HY.out _ HU2.out
      go_wp2_with fail
      refine (C3.out _ HU2.out).mono ?_
      rintro e u3 ⟨rfl, hb⟩
      have HU3 := Lib.hid (HU2.out.trans (hb.mono HU2.out.size))
      clear x0 x1 x2 x3 x4 x5 x6 x7 y0 y1 y2 hb
      obtain ⟨x0, x1, x2, x3, x4, x5, x6, x7⟩ := HBX.out _ HU3.out
      obtain ⟨y0, y1, y2⟩ := HY.out _ HU3.out
      go_wp2_with fail
      refine (C4.out _ HU3.out).mono ?_
      rintro e u4 ⟨rfl, hb⟩
      have HU4 := Lib.hid (HU3.out.trans (hb.mono HU3.out.size))
      clear x0 x1 x2 x3 x4 x5 x6 x7 y0 y1 y2 hb
      obtain ⟨x0, x1, x2, x3, x4, x5, x6, x7⟩ := HBX.out _ HU4.out
      obtain ⟨y0, y1, y2⟩ := HY.out _ HU4.out
      have HSS : Hid (∀ W, Below wr.heap.size wr W → (W.cell? ⟨w.heap.size, 0, none⟩ = some (.slice Ab N.blocks.length cb) ∧ W.cell? ⟨w.heap.size, 1, none⟩ = some (.slice An N.next.length cn) ∧ W.cell? ⟨w.heap.size, 2, none⟩ = some (.slice As N.spurs.length cs) ∧ W.cell? ⟨w.heap.size, 3, none⟩ = some (.slice Ar N.robots.length cr) ∧ W.cell? ⟨w.heap.size, 4, none⟩ = some (Iv N.queue) ∧ W.cell? ⟨w.heap.size, 5, none⟩ = some (Iv N.aging) ∧ W.cell? ⟨w.heap.size, 6, none⟩ = some (Iv N.detours) ∧ W.cell? ⟨w.heap.size, 7, none⟩ = some (Iv N.patience)) ∧ W.cell? ⟨w.heap.size + 1, 0, none⟩ = some (.int .i64 b) ∧ W.cell? ⟨w.heap.size + 1, 1, none⟩ = some (.int .i64 f)) := Lib.hid (fun W hW => by
        obtain ⟨x0, x1, x2, x3, x4, x5, x6, x7⟩ := HBX.out W hW
        obtain ⟨y0, y1, y2⟩ := HY.out W hW
        exact ⟨⟨x0, x1, x2, x3, x4, x5, x6, x7⟩, y0, y1⟩)
      clear x0 x1 x2 x3 x4 x5 x6 x7 y0 y1 y2
      go_wp2_with fail
      go_cut [137] (fun t wx => t = .bool false ∧ Hid (Below wr.heap.size wr wx))
      case first =>
        as_aux_lemma =>
          go_region_held3 (fun W => (W.cell? ⟨w.heap.size, 0, none⟩ = some (.slice Ab N.blocks.length cb) ∧ W.cell? ⟨w.heap.size, 1, none⟩ = some (.slice An N.next.length cn) ∧ W.cell? ⟨w.heap.size, 2, none⟩ = some (.slice As N.spurs.length cs) ∧ W.cell? ⟨w.heap.size, 3, none⟩ = some (.slice Ar N.robots.length cr) ∧ W.cell? ⟨w.heap.size, 4, none⟩ = some (Iv N.queue) ∧ W.cell? ⟨w.heap.size, 5, none⟩ = some (Iv N.aging) ∧ W.cell? ⟨w.heap.size, 6, none⟩ = some (Iv N.detours) ∧ W.cell? ⟨w.heap.size, 7, none⟩ = some (Iv N.patience)) ∧ W.cell? ⟨w.heap.size + 1, 0, none⟩ = some (.int .i64 b) ∧ W.cell? ⟨w.heap.size + 1, 1, none⟩ = some (.int .i64 f)) ((refine HSS.out _ ?_; repeat (first | assumption | exact HU4.out | (with_reducible refine Below.drew ?_)))) (first | (go_at_call 13; (with_reducible refine (C5.out _ (by repeat (first | assumption | exact HU4.out | (with_reducible refine Below.drew ?_)))).mono ?_); rintro e ua ⟨rfl, hbua⟩) | (go_at_call 14; (with_reducible refine (C6.out _ (by repeat (first | assumption | exact HU4.out | (with_reducible refine Below.drew ?_)))).mono ?_); rintro e ub ⟨rfl, hbub⟩))
          all_goals
            go_wp2_with fail
            go_meet
            case rel => exact ⟨rfl, Lib.hid (by repeat (first | assumption | (with_reducible refine Below.drew ?_)))⟩
      case rest =>
        obtain ⟨rfl, HU6⟩ := hcut
        clear C5 C6 HSS n1 n2 n3 n4 n5 n6 HU1 HU2 HU3 HU4 C1 C2 C3 C4
        obtain ⟨x0, x1, x2, x3, x4, x5, x6, x7⟩ := HBX.out _ HU6.out
        obtain ⟨y0, y1, y2⟩ := HY.out _ HU6.out
        go_wp2_with fail
        refine (C7.out _ HU6.out).mono ?_
        rintro e u7 ⟨rfl, hb⟩
        have HU7 := Lib.hid (HU6.out.trans (hb.mono HU6.out.size))
        clear x0 x1 x2 x3 x4 x5 x6 x7 y0 y1 y2 hb
        obtain ⟨x0, x1, x2, x3, x4, x5, x6, x7⟩ := HBX.out _ HU7.out
        obtain ⟨y0, y1, y2⟩ := HY.out _ HU7.out
        go_wp2_with fail
        refine (C8.out _ HU7.out).mono ?_
        rintro e u8 ⟨rfl, hb⟩
        have HU8 := Lib.hid (HU7.out.trans (hb.mono HU7.out.size))
        clear x0 x1 x2 x3 x4 x5 x6 x7 y0 y1 y2 hb
        obtain ⟨x0, x1, x2, x3, x4, x5, x6, x7⟩ := HBX.out _ HU8.out
        obtain ⟨y0, y1, y2⟩ := HY.out _ HU8.out
        go_wp2_with fail
        refine (C9.out _ HU8.out).mono ?_
        rintro e u9 ⟨A9, D9, rfl, hh, hb⟩
        have HH9 := Lib.hid hh
        have HU9 := Lib.hid (HU8.out.trans (hb.mono HU8.out.size))
        clear x0 x1 x2 x3 x4 x5 x6 x7 y0 y1 y2 hb hh
        obtain ⟨x0, x1, x2, x3, x4, x5, x6, x7⟩ := HBX.out _ HU9.out
        obtain ⟨y0, y1, y2⟩ := HY.out _ HU9.out
        go_wp2_with fail
        refine (C10.out _ HU9.out).mono ?_
        rintro e u10 ⟨A10, D10, rfl, hh, hb⟩
        have HH10 := Lib.hid hh
        have HH9 := Lib.hid (HH9.out.keep hb)
        have HU10 := Lib.hid (HU9.out.trans (hb.mono HU9.out.size))
        clear x0 x1 x2 x3 x4 x5 x6 x7 y0 y1 y2 hb hh
        have CS := Lib.hid (sameIntsE_c A9 A10 D9 D10 xs u10 HH9.out HH10.out (by have := HXS.out; omega))
        clear HH9 HH10 HXS C7 C8 C9 C10 HU6 HU7 HU8 HU9
        go_wp2_with fail
        refine CS.out.mono ?_
        rintro e u11 ⟨rfl, q11, rfl⟩
        have HU11 := Lib.hid (below_drewN HU10.out q11)
        clear CS n7 n8 n9 HU10
        generalize u10.drewN q11 = u11 at *
        obtain ⟨x0, x1, x2, x3, x4, x5, x6, x7⟩ := HBX.out _ HU11.out
        obtain ⟨y0, y1, y2⟩ := HY.out _ HU11.out
        go_wp2_with fail
        refine (C11.out _ HU11.out).mono ?_
        rintro e u12 ⟨rfl, hb⟩
        have HU12 := Lib.hid (HU11.out.trans (hb.mono HU11.out.size))
        clear x0 x1 x2 x3 x4 x5 x6 x7 y0 y1 y2 hb
        obtain ⟨x0, x1, x2, x3, x4, x5, x6, x7⟩ := HBX.out _ HU12.out
        obtain ⟨y0, y1, y2⟩ := HY.out _ HU12.out
        go_wp2_with fail
        refine (C12.out _ HU12.out).mono ?_
        rintro e u13 ⟨rfl, hb⟩
        have HU13 := Lib.hid (HU12.out.trans (hb.mono HU12.out.size))
        clear x0 x1 x2 x3 x4 x5 x6 x7 y0 y1 y2 hb
        obtain ⟨x0, x1, x2, x3, x4, x5, x6, x7⟩ := HBX.out _ HU13.out
        obtain ⟨y0, y1, y2⟩ := HY.out _ HU13.out
        go_wp2_with fail
        refine (C13.out _ HU13.out).mono ?_
        rintro e u14 ⟨rfl, hb⟩
        have HU14 := Lib.hid (HU13.out.trans (hb.mono HU13.out.size))
        clear x0 x1 x2 x3 x4 x5 x6 x7 y0 y1 y2 hb
        obtain ⟨x0, x1, x2, x3, x4, x5, x6, x7⟩ := HBX.out _ HU14.out
        obtain ⟨y0, y1, y2⟩ := HY.out _ HU14.out
        go_wp2_with fail
        refine (C14.out _ HU14.out).mono ?_
        rintro e u15 ⟨rfl, hb⟩
        have HU15 := Lib.hid (HU14.out.trans (hb.mono HU14.out.size))
        clear x0 x1 x2 x3 x4 x5 x6 x7 y0 y1 y2 hb
        clear C11 C12 C13 C14 HBX HY HU11 HU12 HU13 HU14
        go_wp2
        go_roundw
        case rel => exact .inr (.inl ⟨by go_num, HU15⟩)
        case measure => simp [intOf]
    · have HTr := Lib.hid (HT2.out.keep HW.out)
      have HXr := Lib.hid ((HW.out.block _ (block_lt HX2.out)).trans HX2.out)
      have HYr := Lib.hid ((HW.out.block _ (block_lt HY2.out)).trans HY2.out)
      have hszr : gt < wr.heap.size := by have := HW.out.size; omega
      have HBr := Lib.hid (HB2.out.trans (HW.out.mono HB2.out.size))
      clear HN HLn HCr HHs HD HT2 HX2 HY2 HB2 HW
      go_wp2_with fail
      refine (loose_c w.heap.size gt 0 8 _ HTr.out (by omega) ⟨by omega, by omega⟩ hszr (by omega)).mono ?_
      rintro e w3 ⟨N2, Ab2, An2, As2, Ar2, cb2, cn2, cs2, cr2, top, rfl, hN2, hM3⟩
      have hz3 := hM3.still.size
      have hX3 := (hM3.still.block w.heap.size (by omega) (by omega)).trans HXr.out
      have hY3 := (hM3.still.block (w.heap.size + 1) (by omega) (by omega)).trans HYr.out
      have hB3 := HBr.out.trans (hM3.still.below HBr.out.size (by omega))
      have HO2 := Lib.hid hN2.ok
      obtain ⟨x0, x1, x2, x3, x4, x5, x6, x7⟩ := boxAt_of hX3
      have hfz : ∀ i, w3.frozen? ⟨w.heap.size, i, none⟩ = false := fun i => by simp [World.frozen?, hX3]
      have HX4 : Hid (((((((((w3.setCell ⟨w.heap.size, 0, none⟩ (.slice Ab2 N2.blocks.length cb2)).setCell ⟨w.heap.size, 1, none⟩ (.slice An2 N2.next.length cn2)).setCell ⟨w.heap.size, 2, none⟩ (.slice As2 N2.spurs.length cs2)).setCell ⟨w.heap.size, 3, none⟩ (.slice Ar2 N2.robots.length cr2)).setCell ⟨w.heap.size, 4, none⟩ (.int .i64 N2.queue)).setCell ⟨w.heap.size, 5, none⟩ (.int .i64 N2.aging)).setCell ⟨w.heap.size, 6, none⟩ (.int .i64 N2.detours)).setCell ⟨w.heap.size, 7, none⟩ (.int .i64 N2.patience)).heap[w.heap.size]? = some (.cells (netCells Ab2 An2 As2 Ar2 cb2 cn2 cs2 cr2 N2) 29 (0, 0))) := Lib.hid (set8_at hX3)
      have HG4 := Lib.hid (set8_grown w3 w.heap.size (.slice Ab2 N2.blocks.length cb2) (.slice An2 N2.next.length cn2) (.slice As2 N2.spurs.length cs2) (.slice Ar2 N2.robots.length cr2) (.int .i64 N2.queue) (.int .i64 N2.aging) (.int .i64 N2.detours) (.int .i64 N2.patience))
      have HM3 := Lib.hid hM3
      have HY3 := Lib.hid hY3
      have HB3 := Lib.hid hB3
      clear hM3 hX3 hY3 hN2 HXr HYr HTr HBr hB3
      go_upto_region 9 with fail
      clear x0 x1 x2 x3 x4 x5 x6 x7 hfz
      generalize ((((((((w3.setCell ⟨w.heap.size, 0, none⟩ (.slice Ab2 N2.blocks.length cb2)).setCell ⟨w.heap.size, 1, none⟩ (.slice An2 N2.next.length cn2)).setCell ⟨w.heap.size, 2, none⟩ (.slice As2 N2.spurs.length cs2)).setCell ⟨w.heap.size, 3, none⟩ (.slice Ar2 N2.robots.length cr2)).setCell ⟨w.heap.size, 4, none⟩ (.int .i64 N2.queue)).setCell ⟨w.heap.size, 5, none⟩ (.int .i64 N2.aging)).setCell ⟨w.heap.size, 6, none⟩ (.int .i64 N2.detours)).setCell ⟨w.heap.size, 7, none⟩ (.int .i64 N2.patience)) = w4 at *
      have hz4 := HG4.out.size
      have HM4 := Lib.hid (HM3.out.rebase (w' := w4) (HM3.out.tape.grown HG4.out (fun e => by injection e with e; omega) (fun k hk => by injection hk with hk; omega)) HG4.out.size (fun k hk hlt => HG4.out.block k hlt (fun e => by injection e with e; omega)))
      have HY4 := Lib.hid ((HG4.out.block (w.heap.size + 1) (by omega) (fun e => by injection e with e; omega)).trans HY3.out)
      have HB4 := Lib.hid (HB3.out.grown HG4.out (by omega) (fun k hk => by injection hk with hk; omega))
      obtain ⟨x0, x1, x2, x3, x4, x5, x6, x7⟩ := boxAt_of HX4.out
      clear HM3 HY3 HB3 HG4
      go_wp2_with fail
      refine (cells_c Ab2 An2 As2 Ar2 cb2 cn2 cs2 cr2 N2 w4 HM4.out.at_ HO2.out.few').mono ?_
      rintro e w5 ⟨rfl, hb5⟩
      have hz5 := hb5.size
      have HM5 := Lib.hid (HM4.out.low (HM4.out.tape.keep hb5) (Still.of_below (hb5.mono (by omega))) hb5.size (fun k _ hlt => hb5.block k hlt))
      have HX5 := Lib.hid ((hb5.block _ (block_lt HX4.out)).trans HX4.out)
      have HY5 := Lib.hid ((hb5.block _ (block_lt HY4.out)).trans HY4.out)
      have HB5 := Lib.hid (HB4.out.trans (hb5.mono HB4.out.size))
      clear x0 x1 x2 x3 x4 x5 x6 x7 hb5 HM4 HX4 HY4 HB4
      obtain ⟨nc, hnc⟩ : ∃ nc : Nat, cellsN N2 = (nc : Int) := ⟨(cellsN N2).toNat, by have := (cellsN_le HO2.out.few').1; omega⟩
      have hc48 : nc ≤ 48 := by have := cellsN_le HO2.out.few'; omega
      rw [hnc]
      clear hnc
      go_wp2_with fail
      refine (shut_c w.heap.size gt (0 + 300) nc w5 HM5.out.tape (by omega) (by omega) (by omega)).mono ?_
      rintro e w6 ⟨sv, s2, rfl, hsl, hos, ht, hst⟩
      obtain rfl := hsl
      obtain ⟨B2, d2, rfl, _⟩ := own_is hos
      have hz6 := hst.size
      have HM6 := Lib.hid (HM5.out.low ht ⟨hst.os, hst.tape, hst.output, hst.size, fun k hk hg => hst.block k (by omega) hg⟩ hst.size (fun k h1 h2 => hst.block k h2 (by omega)))
      have HX6 := Lib.hid ((hst.block _ (block_lt HX5.out) (by omega)).trans HX5.out)
      have HY6 := Lib.hid ((hst.block _ (block_lt HY5.out) (by omega)).trans HY5.out)
      have HB6 := Lib.hid (HB5.out.trans (hst.below HB5.out.size (by omega)))
      have HO6 := Lib.hid hos
      have hD0 : s2.length ≤ d2 := by
        obtain ⟨_, h2⟩ := hos
        rcases h2 with ⟨hv, h0⟩ | ⟨g, cap', cur, hv, _, _, hn, _⟩
        · omega
        · injection hv with _ _ hc
          omega
      have HDD := Lib.hid hD0
      clear hos ht hst HM5 HX5 HY5 HB5 hD0
      have h24 := HO2.out.few
      have h6s := HO2.out.spurs6
      have HK6 : Hid (KX w.heap.size gt w6 (0 + 300 + 1000) w6) := Lib.hid ⟨HM6.out.tape, ⟨rfl, rfl, rfl, Nat.le_refl _, fun _ _ _ => rfl⟩⟩
      have HP6 : Hid (HeapIs w6 w.heap.size (.cells (netCells Ab2 An2 As2 Ar2 cb2 cn2 cs2 cr2 N2) 29 (0, 0))) := Lib.hid HX6.out
      have HSX : Hid (∀ W, HeapIs W w.heap.size (.cells (netCells Ab2 An2 As2 Ar2 cb2 cn2 cs2 cr2 N2) 29 (0, 0)) → W.cell? ⟨w.heap.size, 2, none⟩ = some (.slice As2 N2.spurs.length cs2)) := Lib.hid (fun W hW => by
        obtain ⟨_, _, x2, _, _, _, _, _⟩ := boxAt_of hW
        exact x2)
      have CN := Lib.hid (fun T (n : Int) W h hT h1 hn => KX.next (B := w.heap.size) (gt := gt) (w0 := w6) T n W h hT h1 hn)
      have hw1 : IntKind.i64.wrap ((s2.length : Int) + 2) = (s2.length : Int) + 2 := IntWalk.i64_in _ (by omega)
      have hw2 : IntKind.i64.wrap ((N2.spurs.length : Int) + 2) = (N2.spurs.length : Int) + 2 := IntWalk.i64_in _ (by omega)
      have hgtP : gt ≠ w.heap.size := by omega
      have hgtY : w.heap.size + 1 ≠ gt := by omega
      go_wp2_with fail
      go_cut [] (fun wx => ∃ (q1 q2 q3 : Nat) (wz : World), Hid (KX w.heap.size gt w6 (0 + 300 + 1000 + 1 + 1 + 1) wz) ∧ wx = (((wz.setCell ⟨w.heap.size + 1, 0, none⟩ (.int .i64 ((q1 : Int) - 1))).setCell ⟨w.heap.size + 1, 1, none⟩ (.int .i64 ((q2 : Int) - 1))).setCell ⟨w.heap.size + 1, 2, none⟩ (.int .i64 ((q3 : Int) - 1))))
      case first =>
        as_aux_lemma =>
          go_region_held3 (fun W => W.cell? ⟨w.heap.size, 2, none⟩ = some (.slice As2 N2.spurs.length cs2)) ((refine HSX.out _ ?_; repeat (first | assumption | exact HP6.out | (with_reducible refine HeapIs.drew ?_) | (refine HeapIs.set ?_ (by omega))))) (first | (go_at_call 8; (with_reducible refine Calls.mono (CN.out (0 + 300 + 1000) ((s2.length : Int) + 2) _ ?_ (by omega) (by omega) (by omega)) ?_); (focus ((repeat (first | assumption | exact HK6.out | (with_reducible refine KX.drew ?_))); done)); rintro e w7 ⟨q1, hq1, rfl, hK7⟩; have hwq1 : IntKind.i64.wrap ((q1 : Int) - 1) = (q1 : Int) - 1 := IntWalk.i64_in _ (by omega); have hPw7 := hK7.is HP6.out hgtP.symm) | (go_at_call 8; (with_reducible refine Calls.mono (CN.out (0 + 300 + 1000 + 1) ((s2.length : Int) + 2) _ ?_ (by omega) (by omega) (by omega)) ?_); (focus ((repeat (first | assumption | exact HK6.out | (with_reducible refine KX.drew ?_))); done)); rintro e w8 ⟨q2, hq2, rfl, hK8⟩; have hwq2 : IntKind.i64.wrap ((q2 : Int) - 1) = (q2 : Int) - 1 := IntWalk.i64_in _ (by omega); have hPw8 := hK8.is HP6.out hgtP.symm) | (go_at_call 8; (with_reducible refine Calls.mono (CN.out (0 + 300 + 1000 + 1 + 1) ((N2.spurs.length : Int) + 2) _ ?_ (by omega) (by omega) (by omega)) ?_); (focus ((repeat (first | assumption | exact HK6.out | (with_reducible refine KX.drew ?_))); done)); rintro e wZ ⟨q3, hq3, rfl, hK9⟩; have hwq3 : IntKind.i64.wrap ((q3 : Int) - 1) = (q3 : Int) - 1 := IntWalk.i64_in _ (by omega); have hPwZ := hK9.is HP6.out hgtP.symm; have hYZ := hK9.is HY6.out hgtY; obtain ⟨y0, y1, y2⟩ := three_c hYZ; have hfz : ∀ i, World.frozen? wZ ⟨w.heap.size + 1, i, none⟩ = false := fun i => by (unfold HeapIs at hYZ; simp [World.frozen?, hYZ])))
          all_goals
            go_wp2_with fail
            go_meet
            case rel => exact ⟨q1, q2, q3, _, Lib.hid hK9, rfl⟩
      case rest =>
        obtain ⟨q1, q2, q3, wz, HKz, rfl⟩ := hcut
        have hzz := HKz.out.grown.size
        have HMz := Lib.hid (HM6.out.low HKz.out.tape (Still.of_grown HKz.out.grown (by omega)) HKz.out.grown.size (fun k h1 h2 => HKz.out.grown.block k h2 (fun e => by injection e with e; omega)))
        have HXz := Lib.hid (HKz.out.is HX6.out (by omega))
        have hYz := HKz.out.is HY6.out (by omega)
        have HBz := Lib.hid (HB6.out.grown HKz.out.grown (by omega) (fun k hk => by injection hk with hk; omega))
        have HOz := Lib.hid (ownN_to HO6.out (fun k hk hlt => HKz.out.grown.block k hlt (fun e => by injection e with e; have := (ownN_type HO6.out hk).2; omega)))
        have HY9 := Lib.hid (set3_cells (v0 := .int .i64 ((q1 : Int) - 1)) (v1 := .int .i64 ((q2 : Int) - 1)) (v2 := .int .i64 ((q3 : Int) - 1)) hYz)
        have HG9 : Hid (wz.grownBy (((wz.setCell ⟨w.heap.size + 1, 0, none⟩ (.int .i64 ((q1 : Int) - 1))).setCell ⟨w.heap.size + 1, 1, none⟩ (.int .i64 ((q2 : Int) - 1))).setCell ⟨w.heap.size + 1, 2, none⟩ (.int .i64 ((q3 : Int) - 1))) (some (w.heap.size + 1))) := Lib.hid (grown_trans (grown_trans (put_grown _ _ _ _) (put_grown _ _ _ _)) (put_grown _ _ _ _))
        clear HM6 HX6 HY6 HB6 HO6 HK6 HP6 HSX CN hw1 hw2 hYz HKz
        generalize ((wz.setCell ⟨w.heap.size + 1, 0, none⟩ (.int .i64 ((q1 : Int) - 1))).setCell ⟨w.heap.size + 1, 1, none⟩ (.int .i64 ((q2 : Int) - 1))).setCell ⟨w.heap.size + 1, 2, none⟩ (.int .i64 ((q3 : Int) - 1)) = w9 at *
        have hz9 := HG9.out.size
        have hM9 := HMz.out.rebase (w' := w9) (HMz.out.tape.grown HG9.out (fun e => by injection e with e; omega) (fun k hk => by injection hk with hk; omega)) HG9.out.size (fun k hk hlt => HG9.out.block k hlt (fun e => by injection e with e; omega))
        have HX9 := Lib.hid ((HG9.out.block _ (block_lt HXz.out) (fun e => by injection e with e; omega)).trans HXz.out)
        have HB9 := Lib.hid (HBz.out.grown HG9.out (by omega) (fun k hk => by injection hk with hk; omega))
        have hO9 := ownN_to HOz.out (fun k hk hlt => HG9.out.block k hlt (fun e => by injection e with e; have := (ownN_type HOz.out hk).2; omega))
        have hNt := hM9.at_
        have hLn := HO2.out.len
        have hCr := hM9.capR
        have hHs : Holds w9 B2 (s2.map Bo) := ownsRow_holds hO9
        have hD := HDD.out
        have hPw := HPw.out.keep HB9.out
        have HBX := Lib.hid (fun W (hW : Below w9.heap.size w9 W) => boxAt_of ((hW.block _ (block_lt HX9.out)).trans HX9.out))
        have HY := Lib.hid (fun W (hW : Below w9.heap.size w9 W) => three_c ((hW.block _ (block_lt HY9.out)).trans HY9.out))
        clear HMz HXz HBz HOz HG9 hM9 hO9
        obtain ⟨z1, r1, C1, C2⟩ := count_pair Ab2 An2 As2 Ar2 cb2 cn2 cs2 cr2 N2 w9 hNt hLn hCr
        obtain ⟨z2, z3, r2, C3, C4⟩ := place_pair Ab2 An2 As2 Ar2 cb2 cn2 cs2 cr2 N2 ((q1 : Int) - 1) w9 hNt hLn hCr
        obtain ⟨z4, C5, C6⟩ := follows_pair Ab2 An2 As2 Ar2 cb2 cn2 cs2 cr2 N2 ((q1 : Int) - 1) ((q2 : Int) - 1) w9 hNt hLn hCr
        obtain ⟨z5, r3, C7, C8⟩ := head_pair Ab2 An2 As2 Ar2 cb2 cn2 cs2 cr2 N2 ((q3 : Int) - 1) w9 hNt hLn hCr
        obtain ⟨xs, r4, hxs, C9, C10⟩ := next_pair Ab2 An2 As2 Ar2 cb2 cn2 cs2 cr2 N2 ((q1 : Int) - 1) w9 hNt hLn hCr
        obtain ⟨z6, r5, C11, C12⟩ := open_pair Ab2 An2 As2 Ar2 B2 cb2 cn2 cs2 cr2 d2 N2 s2 ((q3 : Int) - 1) w9 hNt hLn hCr hHs hD
        obtain ⟨nm, r6, C13, C14⟩ := name_pair Ab2 An2 As2 Ar2 cb2 cn2 cs2 cr2 N2 ((q1 : Int) - 1) w9 hNt hLn hCr hPw
        have C1 := Lib.hid C1
        have C2 := Lib.hid C2
        have C3 := Lib.hid C3
        have C4 := Lib.hid C4
        have C5 := Lib.hid (laterC C5)
        have C6 := Lib.hid (laterC C6)
        have C7 := Lib.hid C7
        have C8 := Lib.hid C8
        have C9 := Lib.hid C9
        have C10 := Lib.hid C10
        have C11 := Lib.hid C11
        have C12 := Lib.hid C12
        have C13 := Lib.hid C13
        have C14 := Lib.hid C14
        have n1 : (z1 != z1) = false := by simp
        have n2 : (r1 != r1) = false := by simp
        have n3 : (z2 != z2) = false := by simp
        have n4 : (z3 != z3) = false := by simp
        have n5 : (r2 != r2) = false := by simp
        have n6 : (z4 != z4) = false := by simp
        have n7 : (z5 != z5) = false := by simp
        have n8 : (r3 != r3) = false := by simp
        have n9 : (r4 != r4) = false := by simp
        have n10 : (z6 != z6) = false := by simp
        have n11 : (r5 != r5) = false := by simp
        have n12 : (r6 != r6) = false := by simp
        have HXS := Lib.hid hxs
        clear hNt hLn hCr hHs hD hPw hxs
        obtain ⟨x0, x1, x2, x3, x4, x5, x6, x7⟩ := HBX.out _ (Below.refl _ _)
        obtain ⟨y0, y1, y2⟩ := HY.out _ (Below.refl _ _)
        go_wp2_with fail
        refine (C1.out _ (Below.refl _ _)).mono ?_
        rintro e u1 ⟨rfl, hb⟩
        have HU1 := Lib.hid hb
        clear x0 x1 x2 x3 x4 x5 x6 x7 y0 y1 y2 hb
        obtain ⟨x0, x1, x2, x3, x4, x5, x6, x7⟩ := HBX.out _ HU1.out
        obtain ⟨y0, y1, y2⟩ := HY.out _ HU1.out
        go_wp2_with fail
        refine (C2.out _ HU1.out).mono ?_
        rintro e u2 ⟨rfl, hb⟩
        have HU2 := Lib.hid (HU1.out.trans (hb.mono HU1.out.size))
        clear x0 x1 x2 x3 x4 x5 x6 x7 y0 y1 y2 hb
        obtain ⟨x0, x1, x2, x3, x4, x5, x6, x7⟩ := HBX.out _ HU2.out
        obtain ⟨y0, y1, y2⟩ := HY.out _ HU2.out
        go_wp2_with fail
        refine (C3.out _ HU2.out).mono ?_
        rintro e u3 ⟨rfl, hb⟩
        have HU3 := Lib.hid (HU2.out.trans (hb.mono HU2.out.size))
        clear x0 x1 x2 x3 x4 x5 x6 x7 y0 y1 y2 hb
        obtain ⟨x0, x1, x2, x3, x4, x5, x6, x7⟩ := HBX.out _ HU3.out
        obtain ⟨y0, y1, y2⟩ := HY.out _ HU3.out
        go_wp2_with fail
        refine (C4.out _ HU3.out).mono ?_
        rintro e u4 ⟨rfl, hb⟩
        have HU4 := Lib.hid (HU3.out.trans (hb.mono HU3.out.size))
        clear x0 x1 x2 x3 x4 x5 x6 x7 y0 y1 y2 hb
        obtain ⟨x0, x1, x2, x3, x4, x5, x6, x7⟩ := HBX.out _ HU4.out
        obtain ⟨y0, y1, y2⟩ := HY.out _ HU4.out
        have HSS : Hid (∀ W, Below w9.heap.size w9 W → (W.cell? ⟨w.heap.size, 0, none⟩ = some (.slice Ab2 N2.blocks.length cb2) ∧ W.cell? ⟨w.heap.size, 1, none⟩ = some (.slice An2 N2.next.length cn2) ∧ W.cell? ⟨w.heap.size, 2, none⟩ = some (.slice As2 N2.spurs.length cs2) ∧ W.cell? ⟨w.heap.size, 3, none⟩ = some (.slice Ar2 N2.robots.length cr2) ∧ W.cell? ⟨w.heap.size, 4, none⟩ = some (Iv N2.queue) ∧ W.cell? ⟨w.heap.size, 5, none⟩ = some (Iv N2.aging) ∧ W.cell? ⟨w.heap.size, 6, none⟩ = some (Iv N2.detours) ∧ W.cell? ⟨w.heap.size, 7, none⟩ = some (Iv N2.patience)) ∧ W.cell? ⟨w.heap.size + 1, 0, none⟩ = some (.int .i64 ((q1 : Int) - 1)) ∧ W.cell? ⟨w.heap.size + 1, 1, none⟩ = some (.int .i64 ((q2 : Int) - 1))) := Lib.hid (fun W hW => by
          obtain ⟨x0, x1, x2, x3, x4, x5, x6, x7⟩ := HBX.out W hW
          obtain ⟨y0, y1, y2⟩ := HY.out W hW
          exact ⟨⟨x0, x1, x2, x3, x4, x5, x6, x7⟩, y0, y1⟩)
        clear x0 x1 x2 x3 x4 x5 x6 x7 y0 y1 y2
        go_wp2_with fail
        go_cut [137] (fun t wx => t = .bool false ∧ Hid (Below w9.heap.size w9 wx))
        case first =>
          as_aux_lemma =>
            go_region_held3 (fun W => (W.cell? ⟨w.heap.size, 0, none⟩ = some (.slice Ab2 N2.blocks.length cb2) ∧ W.cell? ⟨w.heap.size, 1, none⟩ = some (.slice An2 N2.next.length cn2) ∧ W.cell? ⟨w.heap.size, 2, none⟩ = some (.slice As2 N2.spurs.length cs2) ∧ W.cell? ⟨w.heap.size, 3, none⟩ = some (.slice Ar2 N2.robots.length cr2) ∧ W.cell? ⟨w.heap.size, 4, none⟩ = some (Iv N2.queue) ∧ W.cell? ⟨w.heap.size, 5, none⟩ = some (Iv N2.aging) ∧ W.cell? ⟨w.heap.size, 6, none⟩ = some (Iv N2.detours) ∧ W.cell? ⟨w.heap.size, 7, none⟩ = some (Iv N2.patience)) ∧ W.cell? ⟨w.heap.size + 1, 0, none⟩ = some (.int .i64 ((q1 : Int) - 1)) ∧ W.cell? ⟨w.heap.size + 1, 1, none⟩ = some (.int .i64 ((q2 : Int) - 1))) ((refine HSS.out _ ?_; repeat (first | assumption | exact HU4.out | (with_reducible refine Below.drew ?_)))) (first | (go_at_call 13; (with_reducible refine (C5.out _ (by repeat (first | assumption | exact HU4.out | (with_reducible refine Below.drew ?_)))).mono ?_); rintro e ua ⟨rfl, hbua⟩) | (go_at_call 14; (with_reducible refine (C6.out _ (by repeat (first | assumption | exact HU4.out | (with_reducible refine Below.drew ?_)))).mono ?_); rintro e ub ⟨rfl, hbub⟩))
            all_goals
              go_wp2_with fail
              go_meet
              case rel => exact ⟨rfl, Lib.hid (by repeat (first | assumption | (with_reducible refine Below.drew ?_)))⟩
        case rest =>
          obtain ⟨rfl, HU6⟩ := hcut
          clear C5 C6 HSS n1 n2 n3 n4 n5 n6 HU1 HU2 HU3 HU4 C1 C2 C3 C4
          obtain ⟨x0, x1, x2, x3, x4, x5, x6, x7⟩ := HBX.out _ HU6.out
          obtain ⟨y0, y1, y2⟩ := HY.out _ HU6.out
          go_wp2_with fail
          refine (C7.out _ HU6.out).mono ?_
          rintro e u7 ⟨rfl, hb⟩
          have HU7 := Lib.hid (HU6.out.trans (hb.mono HU6.out.size))
          clear x0 x1 x2 x3 x4 x5 x6 x7 y0 y1 y2 hb
          obtain ⟨x0, x1, x2, x3, x4, x5, x6, x7⟩ := HBX.out _ HU7.out
          obtain ⟨y0, y1, y2⟩ := HY.out _ HU7.out
          go_wp2_with fail
          refine (C8.out _ HU7.out).mono ?_
          rintro e u8 ⟨rfl, hb⟩
          have HU8 := Lib.hid (HU7.out.trans (hb.mono HU7.out.size))
          clear x0 x1 x2 x3 x4 x5 x6 x7 y0 y1 y2 hb
          obtain ⟨x0, x1, x2, x3, x4, x5, x6, x7⟩ := HBX.out _ HU8.out
          obtain ⟨y0, y1, y2⟩ := HY.out _ HU8.out
          go_wp2_with fail
          refine (C9.out _ HU8.out).mono ?_
          rintro e u9 ⟨A9, D9, rfl, hh, hb⟩
          have HH9 := Lib.hid hh
          have HU9 := Lib.hid (HU8.out.trans (hb.mono HU8.out.size))
          clear x0 x1 x2 x3 x4 x5 x6 x7 y0 y1 y2 hb hh
          obtain ⟨x0, x1, x2, x3, x4, x5, x6, x7⟩ := HBX.out _ HU9.out
          obtain ⟨y0, y1, y2⟩ := HY.out _ HU9.out
          go_wp2_with fail
          refine (C10.out _ HU9.out).mono ?_
          rintro e u10 ⟨A10, D10, rfl, hh, hb⟩
          have HH10 := Lib.hid hh
          have HH9 := Lib.hid (HH9.out.keep hb)
          have HU10 := Lib.hid (HU9.out.trans (hb.mono HU9.out.size))
          clear x0 x1 x2 x3 x4 x5 x6 x7 y0 y1 y2 hb hh
          have CS := Lib.hid (sameIntsE_c A9 A10 D9 D10 xs u10 HH9.out HH10.out (by have := HXS.out; omega))
          clear HH9 HH10 HXS C7 C8 C9 C10 HU6 HU7 HU8 HU9
          go_wp2_with fail
          refine CS.out.mono ?_
          rintro e u11 ⟨rfl, q11, rfl⟩
          have HU11 := Lib.hid (below_drewN HU10.out q11)
          clear CS n7 n8 n9 HU10
          generalize u10.drewN q11 = u11 at *
          obtain ⟨x0, x1, x2, x3, x4, x5, x6, x7⟩ := HBX.out _ HU11.out
          obtain ⟨y0, y1, y2⟩ := HY.out _ HU11.out
          go_wp2_with fail
          refine (C11.out _ HU11.out).mono ?_
          rintro e u12 ⟨rfl, hb⟩
          have HU12 := Lib.hid (HU11.out.trans (hb.mono HU11.out.size))
          clear x0 x1 x2 x3 x4 x5 x6 x7 y0 y1 y2 hb
          obtain ⟨x0, x1, x2, x3, x4, x5, x6, x7⟩ := HBX.out _ HU12.out
          obtain ⟨y0, y1, y2⟩ := HY.out _ HU12.out
          go_wp2_with fail
          refine (C12.out _ HU12.out).mono ?_
          rintro e u13 ⟨rfl, hb⟩
          have HU13 := Lib.hid (HU12.out.trans (hb.mono HU12.out.size))
          clear x0 x1 x2 x3 x4 x5 x6 x7 y0 y1 y2 hb
          obtain ⟨x0, x1, x2, x3, x4, x5, x6, x7⟩ := HBX.out _ HU13.out
          obtain ⟨y0, y1, y2⟩ := HY.out _ HU13.out
          go_wp2_with fail
          refine (C13.out _ HU13.out).mono ?_
          rintro e u14 ⟨rfl, hb⟩
          have HU14 := Lib.hid (HU13.out.trans (hb.mono HU13.out.size))
          clear x0 x1 x2 x3 x4 x5 x6 x7 y0 y1 y2 hb
          obtain ⟨x0, x1, x2, x3, x4, x5, x6, x7⟩ := HBX.out _ HU14.out
          obtain ⟨y0, y1, y2⟩ := HY.out _ HU14.out
          go_wp2_with fail
          refine (C14.out _ HU14.out).mono ?_
          rintro e u15 ⟨rfl, hb⟩
          have HU15 := Lib.hid (HU14.out.trans (hb.mono HU14.out.size))
          clear x0 x1 x2 x3 x4 x5 x6 x7 y0 y1 y2 hb
          clear C11 C12 C13 C14 HBX HY HU11 HU12 HU13 HU14
          go_wp2
          go_roundw
          case rel => exact .inr (.inr ⟨by go_num, Lib.hid (HB9.out.trans (HU15.out.mono HB9.out.size))⟩)
          case measure => simp [intOf]
    · clear HN HLn HCr HHs HD HT2 HX2 HY2 HB2 HPw
      go_wp2
      go_ret
      exact ⟨rfl, HW.out⟩
end Go.Proofs.YtpdjcccpohnmcaaDoor
