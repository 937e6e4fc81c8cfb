/- Joined texts. -/
import Derived.Test.YthfhplhdfnebhaaMjE
import Derived.Test.YthfhplhdfnebhaaMjF
import Derived.Test.YthfhplhdfnebhaaNtCells
import Derived.Test.YthfhplhdfnebhaaMjA
import Derived.BigQuiet
import Derived.Test.YthfhplhdfnebhaaMjJ
namespace Go.Proofs.Ythfhplhdfnebhaa
open Go Go.RowKit Fl

end Go.Proofs.Ythfhplhdfnebhaa
namespace Go.Proofs.Ythfhplhdfnebhaa
open Go Go.RowKit Fl

end Go.Proofs.Ythfhplhdfnebhaa
namespace Go.Proofs.Ythfhplhdfnebhaa
open Go Go.RowKit Fl

section
variable {w wr w' : World} {B gt T G0 base top : Nat} {N : NetD} {Ab An As Ar : Option Addr} {cb cn cs cr : Nat}
theorem NM.rebase (h : NM w B gt T G0 base top N Ab An As Ar cb cn cs cr wr) {T' : Nat} (ht : TapeOk w' B gt T') (hz : wr.heap.size ≤ w'.heap.size) (hb : ∀ k, base ≤ k → k < wr.heap.size → w'.heap[k]? = wr.heap[k]?) : NM w' B gt T' G0 base top N Ab An As Ar cb cn cs cr w' := by
  obtain ⟨o1, o2, o3, o4⟩ := h.ord
  exact ⟨ht, ownN_to h.blocks fun k hk hlt => hb k (ownN_type h.blocks hk).2 hlt, h.next.keep fun k hk hlt _ => hb k hk hlt, ownN_to h.spurs fun k hk hlt => hb k (ownN_type h.spurs hk).2 hlt, ownN_to h.robots fun k hk hlt => hb k (Nat.le_trans o3 (ownN_type h.robots hk).2) hlt, Still.refl _ _ _, Nat.le_trans h.size hz, h.ord⟩
end
theorem NetOk.len {N : NetD} (h : NetOk N) : NetLen N :=
  ⟨by have := h.few; omega, by have := h.few; rw [h.lanes]; omega, fun r hr => by have := h.outs r hr; omega, by have := h.spurs6; omega, by have := h.robots8; omega, fun s hs => by have := name_short (h.named s hs); unfold maxLen; omega⟩
theorem set2_cells {W : World} {g : Nat} {a0 a1 v0 v1 : Value} {t : TypeId} (h : W.heap[g]? = some (.cells #[a0, a1] t (0, 0))) : ((W.setCell ⟨g, 0, none⟩ v0).setCell ⟨g, 1, none⟩ v1).heap[g]? = some (.cells #[v0, v1] t (0, 0)) := by
  have e0 := set1_at (i := 0) (v := v0) h
  have e0' : _ = some (Obj.cells #[v0, a1] t (0, 0)) := e0
  have e1 := set1_at (i := 1) (v := v1) e0'
  have e1' : _ = some (Obj.cells #[v0, v1] t (0, 0)) := e1
  exact e1'
theorem two_c {w : World} {Y : Nat} {a b : Value} {t : TypeId} (h : w.heap[Y]? = some (.cells #[a, b] t (0, 0))) : w.cell? ⟨Y, 0, none⟩ = some a ∧ w.cell? ⟨Y, 1, none⟩ = some b :=
  ⟨by rw [cell_of_row w Y 0 _ _ _ h]; rfl, by rw [cell_of_row w Y 1 _ _ _ h]; rfl⟩
set_option maxRecDepth 100000 in
set_option maxHeartbeats 8000000 in
theorem closureTests_c (hM : DevMutual) (Ab An As Ar B C : Option Addr) (cb cn cs cr d kc : Nat) (N : NetD) (s : List Bool) (b f : Int) (zs : List Int) (w : World) (hN : NetAt w Ab An As Ar N) (hl : NetLen N) (hcr : N.robots.length ≤ cr) (hs : Holds w B (s.map Bo)) (hd : s.length ≤ d) (hz : IntsAt w w.heap.size C zs) (hzl : zs.length ≤ maxLen) :
    Calls Try.prog 3 #[.agg #[.slice Ab N.blocks.length cb, .slice An N.next.length cn, .slice As N.spurs.length cs, .slice Ar N.robots.length cr, Iv N.queue, Iv N.aging, Iv N.detours, Iv N.patience], .slice B s.length d, .agg #[Iv b, Iv f], .slice C zs.length kc] w fun e w' => e = .returned (.bool true) ∧ Below w.heap.size w w' := by
  have HM := Lib.hid hM
  have HN := Lib.hid hN
  have HLn := Lib.hid hl
  have HHs := Lib.hid hs
  have HZ := Lib.hid hz
  have HZl := Lib.hid hzl
  have HCr := Lib.hid hcr
  have HD := Lib.hid hd
  have CK := Lib.hid (fun W => known10_c hM W)
  have hb0 : Below w.heap.size w ((w.alloc (.cells (netCells Ab An As Ar cb cn cs cr N) 29)).alloc (.cells #[Iv b, Iv f] 31)) := ((Below.refl _ _).alloc (Nat.le_refl _) _).alloc (by simp) _
  have HB0 := Lib.hid hb0
  have s1 : (w.alloc (.cells (netCells Ab An As Ar cb cn cs cr N) 29)).heap.size = w.heap.size + 1 := by simp
  have HX0 : Hid (((w.alloc (.cells (netCells Ab An As Ar cb cn cs cr N) 29)).alloc (.cells #[Iv b, Iv f] 31)).heap[w.heap.size]? = some (.cells (netCells Ab An As Ar cb cn cs cr N) 29 (0, 0))) := Lib.hid ((Below.heap_alloc _ _ _ (by rw [s1]; omega)).trans (heap_alloc_new w _))
  have HY0 : Hid (((w.alloc (.cells (netCells Ab An As Ar cb cn cs cr N) 29)).alloc (.cells #[Iv b, Iv f] 31)).heap[w.heap.size + 1]? = some (.cells #[Iv b, Iv f] 31 (0, 0))) := Lib.hid (by
    have h := heap_alloc_new (w.alloc (.cells (netCells Ab An As Ar cb cn cs cr N) 29)) (.cells #[Iv b, Iv f] 31)
    rw [s1] at h
    exact h)
  have s2 : w.heap.size + 2 = ((w.alloc (.cells (netCells Ab An As Ar cb cn cs cr N) 29)).alloc (.cells #[Iv b, Iv f] 31)).heap.size := by simp
  clear hM hN hl hs hz hzl hb0 s1 hcr hd
  go_enter Try.func3, Try.ntmps3
  go_wp2_with fail
  generalize (w.alloc (.cells (netCells Ab An As Ar cb cn cs cr N) 29)).alloc (.cells #[Iv b, Iv f] 31) = w0 at *
  refine (CK.out _).mono ?_
  rintro e w1 ⟨rfl, hb1⟩
  have HB1 := Lib.hid (HB0.out.trans (hb1.mono (by omega)))
  have HX1 := Lib.hid ((hb1.block w.heap.size (by omega)).trans HX0.out)
  have HY1 := Lib.hid ((hb1.block (w.heap.size + 1) (by omega)).trans HY0.out)
  have hs1 : w.heap.size + 2 ≤ w1.heap.size := by have := hb1.size; omega
  have HT2 := Lib.hid (tape_new (c := kc) HZ.out (Nat.le_refl _) HB1.out HZl.out)
  have HB2 : Hid (Below w.heap.size w (w1.alloc (.cells #[.slice C zs.length kc, .int .i64 0] 35))) := Lib.hid (HB1.out.alloc HB1.out.size _)
  have HX2 : Hid ((w1.alloc (.cells #[.slice C zs.length kc, .int .i64 0] 35)).heap[w.heap.size]? = some (.cells (netCells Ab An As Ar cb cn cs cr N) 29 (0, 0))) := Lib.hid ((heap_alloc_old w1 _ (by omega)).trans HX1.out)
  have HY2 : Hid ((w1.alloc (.cells #[.slice C zs.length kc, .int .i64 0] 35)).heap[w.heap.size + 1]? = some (.cells #[Iv b, Iv f] 31 (0, 0))) := Lib.hid ((heap_alloc_old w1 _ (by omega)).trans HY1.out)
  have hs2 : w1.heap.size + 1 = (w1.alloc (.cells #[.slice C zs.length kc, .int .i64 0] 35)).heap.size := by simp
  clear hb1 CK HX0 HY0 HX1 HY1 HB0 HB1 s2 HZ HZl
  go_wp2
  generalize w1.alloc (.cells #[.slice C zs.length kc, .int .i64 0] 35) = w2 at *
  generalize hgt : w1.heap.size = gt at *
  clear hgt
  go_loopw [1, 10] (fun c i wr => (i = .int .i64 0 ∧ c = .slice B s.length d ∧ wr = w2) ∨ (i = .int .i64 1 ∧ Hid (Below w2.heap.size w2 wr)) ∨ (i = .int .i64 2 ∧ Hid (Below w.heap.size w wr))) (fun _ i _ => 2 - (intOf i).toNat)
  case atStart => exact .inl ⟨rfl, rfl, rfl⟩
  case round =>
    rcases hrel with ⟨rfl, rfl, rfl⟩ | ⟨rfl, HW⟩ | ⟨rfl, HW⟩
    · have hNt := HN.out.keep HB2.out
      have hLn := HLn.out
      have hCr := HCr.out
      have hHs := HHs.out.keep HB2.out
      have hD := HD.out
      have HBX := Lib.hid (fun W (hW : Below wr.heap.size wr W) => boxAt_of ((hW.block _ (block_lt HX2.out)).trans HX2.out))
      have HY := Lib.hid (fun W (hW : Below wr.heap.size wr W) => two_c ((hW.block _ (block_lt HY2.out)).trans HY2.out))
      obtain ⟨z1, r1, C1, C2⟩ := slots_pair Ab An As Ar B cb cn cs cr d N s wr hNt hLn hCr hHs hD
      obtain ⟨z2, r2, C3, C4⟩ := carries_pair HM.out Ab An As Ar B cb cn cs cr d N s f wr hNt hLn hCr hHs hD
      obtain ⟨z3, r3, C5, C6⟩ := allowed_pair HM.out Ab An As Ar B cb cn cs cr d N s b f wr hNt hLn hCr hHs
      have C1 := Lib.hid C1
      have C2 := Lib.hid C2
      have C3 := Lib.hid C3
      have C4 := Lib.hid C4
      have C5 := Lib.hid C5
      have C6 := Lib.hid C6
      have n1 : (z1 != z1) = false := by simp
      have n2 : (r1 != r1) = false := by simp
      have n3 : (z2 != z2) = false := by simp
      have n4 : (r2 != r2) = false := by simp
      have n5 : (z3 != z3) = false := by simp
      have n6 : (r3 != r3) = false := by simp
      clear hNt hLn hCr hHs hD
      obtain ⟨x0, x1, x2, x3, x4, x5, x6, x7⟩ := HBX.out _ (Below.refl _ _)
      obtain ⟨y0, y1⟩ := HY.out _ (Below.refl _ _)
      go_wp2_with fail
      refine (C1.out _ (Below.refl _ _)).mono ?_
      rintro e u1 ⟨rfl, hb⟩
      have HU1 := Lib.hid hb
      clear x0 x1 x2 x3 x4 x5 x6 x7 y0 y1 hb
      obtain ⟨x0, x1, x2, x3, x4, x5, x6, x7⟩ := HBX.out _ HU1.out
      obtain ⟨y0, y1⟩ := HY.out _ HU1.out
      go_wp2_with fail
      refine (C2.out _ HU1.out).mono ?_
      rintro e u2 ⟨rfl, hb⟩
      have HU2 := Lib.hid (HU1.out.trans (hb.mono HU1.out.size))
      clear x0 x1 x2 x3 x4 x5 x6 x7 y0 y1 hb
      obtain ⟨x0, x1, x2, x3, x4, x5, x6, x7⟩ := HBX.out _ HU2.out
      obtain ⟨y0, y1⟩ := HY.out _ HU2.out
      go_wp2_with fail
      refine (C3.out _ HU2.out).mono ?_
      rintro e u3 ⟨rfl, hb⟩
      have HU3 := Lib.hid (HU2.out.trans (hb.mono HU2.out.size))
      clear x0 x1 x2 x3 x4 x5 x6 x7 y0 y1 hb
      obtain ⟨x0, x1, x2, x3, x4, x5, x6, x7⟩ := HBX.out _ HU3.out
      obtain ⟨y0, y1⟩ := HY.out _ HU3.out
      go_wp2_with fail
      refine (C4.out _ HU3.out).mono ?_
      rintro e u4 ⟨rfl, hb⟩
      have HU4 := Lib.hid (HU3.out.trans (hb.mono HU3.out.size))
      clear x0 x1 x2 x3 x4 x5 x6 x7 y0 y1 hb
      obtain ⟨x0, x1, x2, x3, x4, x5, x6, x7⟩ := HBX.out _ HU4.out
      obtain ⟨y0, y1⟩ := HY.out _ HU4.out
      go_wp2_with fail
      refine (C5.out _ HU4.out).mono ?_
      rintro e u5 ⟨rfl, hb⟩
      have HU5 := Lib.hid (HU4.out.trans (hb.mono HU4.out.size))
      clear x0 x1 x2 x3 x4 x5 x6 x7 y0 y1 hb
      obtain ⟨x0, x1, x2, x3, x4, x5, x6, x7⟩ := HBX.out _ HU5.out
      obtain ⟨y0, y1⟩ := HY.out _ HU5.out
      go_wp2_with fail
      refine (C6.out _ HU5.out).mono ?_
      rintro e u6 ⟨rfl, hb⟩
      have HU6 := Lib.hid (HU5.out.trans (hb.mono HU5.out.size))
      clear x0 x1 x2 x3 x4 x5 x6 x7 y0 y1 hb
      clear C1 C2 C3 C4 C5 C6 HBX HY
      go_wp2
      go_roundw
      case rel => exact .inr (.inl ⟨by go_num, HU6⟩)
      case measure => simp [intOf]
    · have HTr := Lib.hid (HT2.out.keep HW.out)
      have HXr := Lib.hid ((HW.out.block _ (block_lt HX2.out)).trans HX2.out)
      have HYr := Lib.hid ((HW.out.block _ (block_lt HY2.out)).trans HY2.out)
      have hszr : gt < wr.heap.size := by have := HW.out.size; omega
      have HBr := Lib.hid (HB2.out.trans (HW.out.mono HB2.out.size))
      clear HN HLn HCr HHs HD HT2 HX2 HY2 HB2 HW
      go_wp2_with fail
      refine (loose_c w.heap.size gt 0 8 _ HTr.out (by omega) ⟨by omega, by omega⟩ hszr (by omega)).mono ?_
      rintro e w3 ⟨N2, Ab2, An2, As2, Ar2, cb2, cn2, cs2, cr2, top, rfl, hN2, hM3⟩
      have hz3 := hM3.still.size
      have hX3 := (hM3.still.block w.heap.size (by omega) (by omega)).trans HXr.out
      have hY3 := (hM3.still.block (w.heap.size + 1) (by omega) (by omega)).trans HYr.out
      have hB3 := HBr.out.trans (hM3.still.below HBr.out.size (by omega))
      have HO2 := Lib.hid hN2.ok
      obtain ⟨x0, x1, x2, x3, x4, x5, x6, x7⟩ := boxAt_of hX3
      have hfz : ∀ i, w3.frozen? ⟨w.heap.size, i, none⟩ = false := fun i => by simp [World.frozen?, hX3]
      have HX4 : Hid (((((((((w3.setCell ⟨w.heap.size, 0, none⟩ (.slice Ab2 N2.blocks.length cb2)).setCell ⟨w.heap.size, 1, none⟩ (.slice An2 N2.next.length cn2)).setCell ⟨w.heap.size, 2, none⟩ (.slice As2 N2.spurs.length cs2)).setCell ⟨w.heap.size, 3, none⟩ (.slice Ar2 N2.robots.length cr2)).setCell ⟨w.heap.size, 4, none⟩ (.int .i64 N2.queue)).setCell ⟨w.heap.size, 5, none⟩ (.int .i64 N2.aging)).setCell ⟨w.heap.size, 6, none⟩ (.int .i64 N2.detours)).setCell ⟨w.heap.size, 7, none⟩ (.int .i64 N2.patience)).heap[w.heap.size]? = some (.cells (netCells Ab2 An2 As2 Ar2 cb2 cn2 cs2 cr2 N2) 29 (0, 0))) := Lib.hid (set8_at hX3)
      have HG4 := Lib.hid (set8_grown w3 w.heap.size (.slice Ab2 N2.blocks.length cb2) (.slice An2 N2.next.length cn2) (.slice As2 N2.spurs.length cs2) (.slice Ar2 N2.robots.length cr2) (.int .i64 N2.queue) (.int .i64 N2.aging) (.int .i64 N2.detours) (.int .i64 N2.patience))
      have HM3 := Lib.hid hM3
      have HY3 := Lib.hid hY3
      have HB3 := Lib.hid hB3
      clear hM3 hX3 hY3 hN2 HXr HYr HTr HBr hB3
      go_upto_region 9 with fail
      clear x0 x1 x2 x3 x4 x5 x6 x7 hfz
      generalize ((((((((w3.setCell ⟨w.heap.size, 0, none⟩ (.slice Ab2 N2.blocks.length cb2)).setCell ⟨w.heap.size, 1, none⟩ (.slice An2 N2.next.length cn2)).setCell ⟨w.heap.size, 2, none⟩ (.slice As2 N2.spurs.length cs2)).setCell ⟨w.heap.size, 3, none⟩ (.slice Ar2 N2.robots.length cr2)).setCell ⟨w.heap.size, 4, none⟩ (.int .i64 N2.queue)).setCell ⟨w.heap.size, 5, none⟩ (.int .i64 N2.aging)).setCell ⟨w.heap.size, 6, none⟩ (.int .i64 N2.detours)).setCell ⟨w.heap.size, 7, none⟩ (.int .i64 N2.patience)) = w4 at *
      have hz4 := HG4.out.size
      have HM4 := Lib.hid (HM3.out.rebase (w' := w4) (HM3.out.tape.grown HG4.out (fun e => by injection e with e; omega) (fun k hk => by injection hk with hk; omega)) HG4.out.size (fun k hk hlt => HG4.out.block k hlt (fun e => by injection e with e; omega)))
      have HY4 := Lib.hid ((HG4.out.block (w.heap.size + 1) (by omega) (fun e => by injection e with e; omega)).trans HY3.out)
      have HB4 := Lib.hid (HB3.out.grown HG4.out (by omega) (fun k hk => by injection hk with hk; omega))
      obtain ⟨x0, x1, x2, x3, x4, x5, x6, x7⟩ := boxAt_of HX4.out
      clear HM3 HY3 HB3 HG4
      go_wp2_with fail
      refine (cells_c Ab2 An2 As2 Ar2 cb2 cn2 cs2 cr2 N2 w4 HM4.out.at_ HO2.out.few').mono ?_
      rintro e w5 ⟨rfl, hb5⟩
      have hz5 := hb5.size
      have HM5 := Lib.hid (HM4.out.low (HM4.out.tape.keep hb5) (Still.of_below (hb5.mono (by omega))) hb5.size (fun k _ hlt => hb5.block k hlt))
      have HX5 := Lib.hid ((hb5.block _ (block_lt HX4.out)).trans HX4.out)
      have HY5 := Lib.hid ((hb5.block _ (block_lt HY4.out)).trans HY4.out)
      have HB5 := Lib.hid (HB4.out.trans (hb5.mono HB4.out.size))
      clear x0 x1 x2 x3 x4 x5 x6 x7 hb5 HM4 HX4 HY4 HB4
      obtain ⟨nc, hnc⟩ : ∃ nc : Nat, cellsN N2 = (nc : Int) := ⟨(cellsN N2).toNat, by have := (cellsN_le HO2.out.few').1; omega⟩
      have hc48 : nc ≤ 48 := by have := cellsN_le HO2.out.few'; omega
      rw [hnc]
      clear hnc
      go_wp2_with fail
      refine (shut_c w.heap.size gt (0 + 300) nc w5 HM5.out.tape (by omega) (by omega) (by omega)).mono ?_
      rintro e w6 ⟨sv, s2, rfl, hsl, hos, ht, hst⟩
      obtain rfl := hsl
      obtain ⟨B2, d2, rfl, _⟩ := own_is hos
      have hz6 := hst.size
      have HM6 := Lib.hid (HM5.out.low ht ⟨hst.os, hst.tape, hst.output, hst.size, fun k hk hg => hst.block k (by omega) hg⟩ hst.size (fun k h1 h2 => hst.block k h2 (by omega)))
      have HX6 := Lib.hid ((hst.block _ (block_lt HX5.out) (by omega)).trans HX5.out)
      have HY6 := Lib.hid ((hst.block _ (block_lt HY5.out) (by omega)).trans HY5.out)
      have HB6 := Lib.hid (HB5.out.trans (hst.below HB5.out.size (by omega)))
      have HO6 := Lib.hid hos
      have hD0 : s2.length ≤ d2 := by
        obtain ⟨_, h2⟩ := hos
        rcases h2 with ⟨hv, h0⟩ | ⟨g, cap', cur, hv, _, _, hn, _⟩
        · omega
        · injection hv with _ _ hc
          omega
      have HDD := Lib.hid hD0
      clear hos ht hst HM5 HX5 HY5 HB5 hD0
      obtain ⟨x0, x1, x2, x3, x4, x5, x6, x7⟩ := boxAt_of HX6.out
      have h24 := HO2.out.few
      have hw1 : IntKind.i64.wrap ((N2.blocks.length : Int) + 2) = (N2.blocks.length : Int) + 2 := IntWalk.i64_in _ (by omega)
      go_wp2_with fail
      refine (next_c w.heap.size gt (0 + 300 + 1000) ((N2.blocks.length : Int) + 2) w6 HM6.out.tape (by omega) (by omega) (by omega)).mono ?_
      rintro e w7 ⟨q1, hq1, rfl, ht7, hg7⟩
      have hz7 := hg7.size
      have HM7 := Lib.hid (HM6.out.low ht7 (Still.of_grown hg7 (by omega)) hg7.size (fun k h1 h2 => hg7.block k h2 (fun e => by injection e with e; omega)))
      have HX7 := Lib.hid ((hg7.block _ (block_lt HX6.out) (fun e => by injection e with e; omega)).trans HX6.out)
      have HY7 := Lib.hid ((hg7.block _ (block_lt HY6.out) (fun e => by injection e with e; omega)).trans HY6.out)
      have HB7 := Lib.hid (HB6.out.grown hg7 (by omega) (fun k hk => by injection hk with hk; omega))
      have HO7 := Lib.hid (ownN_to HO6.out (fun k hk hlt => hg7.block k hlt (fun e => by injection e with e; have := (ownN_type HO6.out hk).2; omega)))
      have hw2 : IntKind.i64.wrap ((q1 : Int) - 1) = (q1 : Int) - 1 := IntWalk.i64_in _ (by omega)
      clear ht7 hg7 HM6 HX6 HY6 HB6 HO6 x0 x1 x2 x3 x4 x5 x6 x7
      go_wp2_with fail
      refine (next_c w.heap.size gt (0 + 300 + 1000 + 1) 11 w7 HM7.out.tape (by omega) (by omega) (by omega)).mono ?_
      rintro e w8 ⟨q2, hq2, rfl, ht8, hg8⟩
      have hz8 := hg8.size
      have HM8 := Lib.hid (HM7.out.low ht8 (Still.of_grown hg8 (by omega)) hg8.size (fun k h1 h2 => hg8.block k h2 (fun e => by injection e with e; omega)))
      have HX8 := Lib.hid ((hg8.block _ (block_lt HX7.out) (fun e => by injection e with e; omega)).trans HX7.out)
      have hY8 := (hg8.block _ (block_lt HY7.out) (fun e => by injection e with e; omega)).trans HY7.out
      have HB8 := Lib.hid (HB7.out.grown hg8 (by omega) (fun k hk => by injection hk with hk; omega))
      have HO8 := Lib.hid (ownN_to HO7.out (fun k hk hlt => hg8.block k hlt (fun e => by injection e with e; have := (ownN_type HO7.out hk).2; omega)))
      have hw3 : IntKind.i64.wrap ((q2 : Int) - 1) = (q2 : Int) - 1 := IntWalk.i64_in _ (by omega)
      obtain ⟨y0, y1⟩ := two_c hY8
      have hfz : ∀ i, w8.frozen? ⟨w.heap.size + 1, i, none⟩ = false := fun i => by simp [World.frozen?, hY8]
      have HY9 : Hid (((w8.setCell ⟨w.heap.size + 1, 0, none⟩ (.int .i64 ((q1 : Int) - 1))).setCell ⟨w.heap.size + 1, 1, none⟩ (.int .i64 ((q2 : Int) - 1))).heap[w.heap.size + 1]? = some (.cells #[.int .i64 ((q1 : Int) - 1), .int .i64 ((q2 : Int) - 1)] 31 (0, 0))) := Lib.hid (set2_cells hY8)
      have HG9 : Hid (w8.grownBy ((w8.setCell ⟨w.heap.size + 1, 0, none⟩ (.int .i64 ((q1 : Int) - 1))).setCell ⟨w.heap.size + 1, 1, none⟩ (.int .i64 ((q2 : Int) - 1))) (some (w.heap.size + 1))) := Lib.hid (grown_trans (put_grown _ _ _ _) (put_grown _ _ _ _))
      clear ht8 hg8 HM7 HX7 HY7 HB7 HO7 hY8
      go_upto_region 11 with fail
      clear y0 y1 hfz hw1 hw2 hw3
      generalize ((w8.setCell ⟨w.heap.size + 1, 0, none⟩ (.int .i64 ((q1 : Int) - 1))).setCell ⟨w.heap.size + 1, 1, none⟩ (.int .i64 ((q2 : Int) - 1))) = w9 at *
      have hz9 := HG9.out.size
      have hM9 := HM8.out.rebase (w' := w9) (HM8.out.tape.grown HG9.out (fun e => by injection e with e; omega) (fun k hk => by injection hk with hk; omega)) HG9.out.size (fun k hk hlt => HG9.out.block k hlt (fun e => by injection e with e; omega))
      have HX9 := Lib.hid ((HG9.out.block _ (block_lt HX8.out) (fun e => by injection e with e; omega)).trans HX8.out)
      have HB9 := Lib.hid (HB8.out.grown HG9.out (by omega) (fun k hk => by injection hk with hk; omega))
      have hO9 := ownN_to HO8.out (fun k hk hlt => HG9.out.block k hlt (fun e => by injection e with e; have := (ownN_type HO8.out hk).2; omega))
      have hNt := hM9.at_
      have hLn := HO2.out.len
      have hCr := hM9.capR
      have hHs : Holds w9 B2 (s2.map Bo) := ownsRow_holds hO9
      have hD := HDD.out
      have HBX := Lib.hid (fun W (hW : Below w9.heap.size w9 W) => boxAt_of ((hW.block _ (block_lt HX9.out)).trans HX9.out))
      have HY := Lib.hid (fun W (hW : Below w9.heap.size w9 W) => two_c ((hW.block _ (block_lt HY9.out)).trans HY9.out))
      clear HM8 HX8 HB8 HO8 HG9 hM9 hO9 hq1 hq2
      obtain ⟨z1, r1, C1, C2⟩ := slots_pair Ab2 An2 As2 Ar2 B2 cb2 cn2 cs2 cr2 d2 N2 s2 w9 hNt hLn hCr hHs hD
      obtain ⟨z2, r2, C3, C4⟩ := carries_pair HM.out Ab2 An2 As2 Ar2 B2 cb2 cn2 cs2 cr2 d2 N2 s2 ((q2 : Int) - 1) w9 hNt hLn hCr hHs hD
      obtain ⟨z3, r3, C5, C6⟩ := allowed_pair HM.out Ab2 An2 As2 Ar2 B2 cb2 cn2 cs2 cr2 d2 N2 s2 ((q1 : Int) - 1) ((q2 : Int) - 1) w9 hNt hLn hCr hHs
      have C1 := Lib.hid C1
      have C2 := Lib.hid C2
      have C3 := Lib.hid C3
      have C4 := Lib.hid C4
      have C5 := Lib.hid C5
      have C6 := Lib.hid C6
      have n1 : (z1 != z1) = false := by simp
      have n2 : (r1 != r1) = false := by simp
      have n3 : (z2 != z2) = false := by simp
      have n4 : (r2 != r2) = false := by simp
      have n5 : (z3 != z3) = false := by simp
      have n6 : (r3 != r3) = false := by simp
      clear hNt hLn hCr hHs hD
      obtain ⟨x0, x1, x2, x3, x4, x5, x6, x7⟩ := HBX.out _ (Below.refl _ _)
      obtain ⟨y0, y1⟩ := HY.out _ (Below.refl _ _)
      go_wp2_with fail
      refine (C1.out _ (Below.refl _ _)).mono ?_
      rintro e u1 ⟨rfl, hb⟩
      have HU1 := Lib.hid hb
      clear x0 x1 x2 x3 x4 x5 x6 x7 y0 y1 hb
      obtain ⟨x0, x1, x2, x3, x4, x5, x6, x7⟩ := HBX.out _ HU1.out
      obtain ⟨y0, y1⟩ := HY.out _ HU1.out
      go_wp2_with fail
      refine (C2.out _ HU1.out).mono ?_
      rintro e u2 ⟨rfl, hb⟩
      have HU2 := Lib.hid (HU1.out.trans (hb.mono HU1.out.size))
      clear x0 x1 x2 x3 x4 x5 x6 x7 y0 y1 hb
      obtain ⟨x0, x1, x2, x3, x4, x5, x6, x7⟩ := HBX.out _ HU2.out
      obtain ⟨y0, y1⟩ := HY.out _ HU2.out
      go_wp2_with fail
      refine (C3.out _ HU2.out).mono ?_
      rintro e u3 ⟨rfl, hb⟩
      have HU3 := Lib.hid (HU2.out.trans (hb.mono HU2.out.size))
      clear x0 x1 x2 x3 x4 x5 x6 x7 y0 y1 hb
      obtain ⟨x0, x1, x2, x3, x4, x5, x6, x7⟩ := HBX.out _ HU3.out
      obtain ⟨y0, y1⟩ := HY.out _ HU3.out
      go_wp2_with fail
      refine (C4.out _ HU3.out).mono ?_
      rintro e u4 ⟨rfl, hb⟩
      have HU4 := Lib.hid (HU3.out.trans (hb.mono HU3.out.size))
      clear x0 x1 x2 x3 x4 x5 x6 x7 y0 y1 hb
      obtain ⟨x0, x1, x2, x3, x4, x5, x6, x7⟩ := HBX.out _ HU4.out
      obtain ⟨y0, y1⟩ := HY.out _ HU4.out
      go_wp2_with fail
      refine (C5.out _ HU4.out).mono ?_
      rintro e u5 ⟨rfl, hb⟩
      have HU5 := Lib.hid (HU4.out.trans (hb.mono HU4.out.size))
      clear x0 x1 x2 x3 x4 x5 x6 x7 y0 y1 hb
      obtain ⟨x0, x1, x2, x3, x4, x5, x6, x7⟩ := HBX.out _ HU5.out
      obtain ⟨y0, y1⟩ := HY.out _ HU5.out
      go_wp2_with fail
      refine (C6.out _ HU5.out).mono ?_
      rintro e u6 ⟨rfl, hb⟩
      have HU6 := Lib.hid (HU5.out.trans (hb.mono HU5.out.size))
      clear x0 x1 x2 x3 x4 x5 x6 x7 y0 y1 hb
      clear C1 C2 C3 C4 C5 C6 HBX HY
      go_wp2
      go_roundw
      case rel => exact .inr (.inr ⟨by go_num, Lib.hid (HB9.out.trans (HU6.out.mono HB9.out.size))⟩)
      case measure => simp [intOf]
    · clear HN HLn HCr HHs HD HT2 HX2 HY2 HB2
      go_wp2
      go_ret
      exact ⟨rfl, HW.out⟩
end Go.Proofs.Ythfhplhdfnebhaa
