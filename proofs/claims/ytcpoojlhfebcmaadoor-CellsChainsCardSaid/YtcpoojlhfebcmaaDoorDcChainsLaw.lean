/- CellsChains returns true. -/
import Derived.Test.YtcpoojlhfebcmaaDoorDcExample
import Derived.Test.YtcpoojlhfebcmaaDoorMjF
import Derived.Test.YtcpoojlhfebcmaaDoorMjH
namespace Go.Proofs.YtcpoojlhfebcmaaDoor
open Go Go.RowKit Fl

theorem base_in {l : List SpurD} {k : Nat} (h : k < l.length) : l[k].base ∈ spurBases l l[k].inn :=
  List.mem_map_of_mem (List.mem_filter.2 ⟨List.getElem_mem h, by simp⟩)
set_option maxRecDepth 100000 in
set_option maxHeartbeats 8000000 in
theorem cellsChains_c (C : Option Addr) (k : Nat) (zs : List Int) (w : World) (hz : IntsAt w w.heap.size C zs) (hzl : zs.length ≤ maxLen) (hp : Pows w) :
    Calls Tryd.prog 4 #[.slice C zs.length k] w fun e w' => e = .returned (.bool true) ∧ Below w.heap.size w w' := by
  have CK := Lib.hid (known9_c w hp)
  have HZ := Lib.hid hz
  have HL := Lib.hid hzl
  have HP := Lib.hid hp
  clear hz hzl hp
  go_enter Tryd.func4, Tryd.ntmps4
  go_wp2_with fail
  refine CK.out.mono ?_
  rintro e w1 ⟨rfl, hb1⟩
  have HT2 := Lib.hid (tape_new (c := k) HZ.out (Nat.le_refl _) hb1 HL.out)
  have HB2 : Hid (Below w.heap.size w (w1.alloc (.cells #[.slice C zs.length k, .int .i64 0] 35))) := Lib.hid (hb1.alloc hb1.size _)
  have HgB : Hid (w.heap.size ≤ w1.heap.size) := Lib.hid hb1.size
  have HS2 : Hid (w1.heap.size < (w1.alloc (.cells #[.slice C zs.length k, .int .i64 0] 35)).heap.size) := Lib.hid (by simp)
  clear hb1 CK HZ HL
  go_wp2_with fail
  refine (loose_c w.heap.size w1.heap.size 0 8 _ HT2.out (by omega) ⟨by omega, by omega⟩ HS2.out HgB.out).mono ?_
  rintro e w3 ⟨N, Ab, An, As, Ar, cb, cn, cs, cr, top, rfl, hN, hM⟩
  have HN := Lib.hid hN
  have H4 := Lib.hid (MadeN.begin hM ⟨HgB.out, HS2.out⟩ HB2.out)
  generalize w1.alloc (.cells #[.slice C zs.length k, .int .i64 0] 35) = w2 at *
  clear hN hM HT2 HB2 HgB HS2
  go_upto_region 4 with fail
  generalize w3.alloc (.cells (netCells Ab An As Ar cb cn cs cr N) 29) = w4 at *
  generalize w3.heap.size = X at *
  have HNt := Lib.hid (fun W (hW : Below w4.heap.size w4 W) => (H4.out.keep hW).nm.at_)
  have HX := Lib.hid (fun W (hW : Below w4.heap.size w4 W) => boxAt_of (H4.out.keep hW).box)
  have HBw := Lib.hid (fun W (hW : Below w4.heap.size w4 W) => (H4.out.keep hW).below)
  have HPw := Lib.hid (fun W (hW : Below w4.heap.size w4 W) => HP.out.keep (HBw.out W hW))
  have HCr := Lib.hid H4.out.nm.capR
  have HOk := Lib.hid HN.out.ok
  have h6 := HOk.out.spurs6
  clear HP H4
  have CHd := Lib.hid (fun j W (hj : j < N.spurs.length) (hW : Below w4.heap.size w4 W) => head_c Ab An As Ar cb cn cs cr j N W (HNt.out W hW) HOk.out HCr.out hj)
  have CFo : Hid (∀ j W (hj : j < N.spurs.length), Below w4.heap.size w4 W → Calls Tryd.prog 17 #[.agg #[.slice Ab N.blocks.length cb, .slice An N.next.length cn, .slice As N.spurs.length cs, .slice Ar N.robots.length cr, Iv N.queue, Iv N.aging, Iv N.detours, Iv N.patience], Iv N.spurs[j].inn, Iv N.spurs[j].base] W fun e w' => e = .returned (.bool true) ∧ Below W.heap.size W w') := Lib.hid (fun j W hj hW => by
    obtain ⟨i1, i2⟩ := (HOk.out.spurOk _ (List.getElem_mem hj)).inn
    obtain ⟨b, hb⟩ := Int.eq_ofNat_of_zero_le i1
    have hbb : b < N.blocks.length := by omega
    have hbn : b < N.next.length := by rw [HOk.out.lanes]; exact hbb
    have h := follows_c Ab An As Ar cb cn cs cr N b N.spurs[j].base (N.next[b] ++ spurBases N.spurs b) W (by
      have h1 := HOk.out.outs _ (List.getElem_mem hbn)
      have h2 := spurBases_few N.spurs b
      have h3 := HOk.out.spurs6
      rw [List.length_append]; omega) (fun W' hW' => nextB_c Ab An As Ar cb cn cs cr b N W' (HNt.out W' (hW.trans (hW'.mono hW.size))) HOk.out HCr.out hbb hbn)
    have h4 := base_in hj
    rw [hb] at h4
    rw [decide_eq_true (List.mem_append_right _ h4)] at h
    rw [hb]
    exact h)
  have CNx := Lib.hid (fun j (c : Int) W (hj : j < N.spurs.length) (hW : Below w4.heap.size w4 W) => nextS_c Ab An As Ar cb cn cs cr j N c W (HNt.out W hW) HOk.out HCr.out hj)
  have CPl : Hid (∀ j (c : Int) W (hj : j < N.spurs.length), Below w4.heap.size w4 W → N.spurs[j].base ≤ c → c < N.spurs[j].base + N.spurs[j].slots → Calls Tryd.prog 15 #[.agg #[.slice Ab N.blocks.length cb, .slice An N.next.length cn, .slice As N.spurs.length cs, .slice Ar N.robots.length cr, Iv N.queue, Iv N.aging, Iv N.detours, Iv N.patience], .int .i64 c] W fun e w' => e = .returned (.tuple #[.int .i64 j, .int .i64 (c - N.spurs[j].base + 1), .int .i64 0]) ∧ Below W.heap.size W w') := Lib.hid (fun j c W hj hW g1 g2 => by
    have h := place_c Ab An As Ar cb cn cs cr N c W (HNt.out W hW) HOk.out HCr.out
    obtain ⟨q1, q2⟩ := HOk.out.placeS hj g1 g2
    rw [q1, q2] at h
    exact h)
  have HBd := Lib.hid HOk.out.bounds
  have HSp := Lib.hid (fun W (hW : Below w4.heap.size w4 W) => (HNt.out W hW).spurs)
  clear HNt HOk HCr HN HPw
  go_wp2
  go_loopw [4] (fun i wr => ∃ j : Nat, i = .int .i64 j ∧ j ≤ N.spurs.length ∧ Hid (Below w4.heap.size w4 wr)) (fun i _ => N.spurs.length - (intOf i).toNat)
  case atStart => exact ⟨0, rfl, Nat.zero_le _, Lib.hid (Below.refl _ _)⟩
  case round =>
    obtain ⟨j, rfl, hj, HB⟩ := hrel
    obtain ⟨x0, x1, x2, x3, x4, x5, x6, x7⟩ := HX.out _ HB.out
    by_cases hlt : j < N.spurs.length
    · have CH1 := Lib.hid (fun W (hW : Below w4.heap.size w4 W) => CHd.out j W hlt hW)
      have CF1 := Lib.hid (fun W (hW : Below w4.heap.size w4 W) => CFo.out j W hlt hW)
      have CN1 := Lib.hid (fun c W (hW : Below w4.heap.size w4 W) => CNx.out j c W hlt hW)
      have CP1 := Lib.hid (fun c W (hW : Below w4.heap.size w4 W) => CPl.out j c W hlt hW)
      have hbd := HBd.out _ (List.getElem_mem hlt)
      obtain ⟨bp, op, rfl, hbp, hsp⟩ := (HSp.out _ HB.out).spur hlt
      obtain ⟨c0, c1, c2, c3, c4, c5⟩ := hsp
      clear CHd CFo CNx CPl hbp
      generalize N.spurs[j] = x at *
      obtain ⟨nm, dp, si, so, sw, sb⟩ := x
      simp only at c0 c1 c2 c3 c4 c5 hbd CH1 CF1 CN1 CP1
      obtain ⟨t, ht⟩ : ∃ t, t = sb + sw := ⟨_, rfl⟩
      obtain ⟨hd, hhd⟩ : ∃ hd, hd = t - 1 := ⟨_, rfl⟩
      have hw1 : IntKind.i64.wrap (sb + sw) = t := by rw [ht]; exact IntWalk.i64_in _ (by omega)
      have hw2 : IntKind.i64.wrap (t - 1) = hd := by rw [hhd]; exact IntWalk.i64_in _ (by omega)
      rw [← ht, ← hhd] at CH1
      have HT := Lib.hid ht
      have HD := Lib.hid hhd
      have hbs : 0 ≤ sb ∧ sb ≤ 100 ∧ sb ≤ hd ∧ hd ≤ 104 ∧ t ≤ 105 ∧ hd < t ∧ t ≤ hd + 1 := by omega
      clear ht hhd hbd
      have HY := Lib.hid (heap_alloc_new wr (.cells #[Sv nm, Bo dp, Iv si, Iv so, Iv sw, Iv sb] 56))
      have HB5 : Hid (Below w4.heap.size w4 (wr.alloc (.cells #[Sv nm, Bo dp, Iv si, Iv so, Iv sw, Iv sb] 56))) := Lib.hid (HB.out.alloc HB.out.size _)
      have hsz5 : wr.heap.size < (wr.alloc (.cells #[Sv nm, Bo dp, Iv si, Iv so, Iv sw, Iv sb] 56)).heap.size := by simp
      go_upto_region 8 with fail
      generalize wr.alloc (.cells #[Sv nm, Bo dp, Iv si, Iv so, Iv sw, Iv sb] 56) = w5 at *
      generalize wr.heap.size = Y at *
      clear x0 x1 x2 x3 x4 x5 x6 x7 c0 c1 c2 c3 c4 c5 HB
      have HYc : Hid (∀ W, Below w5.heap.size w5 W → W.cell? ⟨Y, 2, none⟩ = some (Iv si) ∧ W.cell? ⟨Y, 3, none⟩ = some (Iv so) ∧ W.cell? ⟨Y, 4, none⟩ = some (Iv sw) ∧ W.cell? ⟨Y, 5, none⟩ = some (Iv sb)) := Lib.hid (fun W hW => by
        have h := (hW.block Y hsz5).trans HY.out
        refine ⟨?_, ?_, ?_, ?_⟩
        all_goals rw [cell_of_row _ _ _ _ _ _ h]; rfl)
      have HX5 := Lib.hid (fun W (hW : Below w5.heap.size w5 W) => HX.out W (HB5.out.trans (hW.mono HB5.out.size)))
      have H45 := Lib.hid (fun W (hW : Below w5.heap.size w5 W) => HB5.out.trans (hW.mono HB5.out.size))
      clear HY hsz5
      obtain ⟨x0, x1, x2, x3, x4, x5, x6, x7⟩ := HX5.out _ (Below.refl _ _)
      go_wp2_with fail
      refine (CH1.out _ HB5.out).mono ?_
      rintro e w6 ⟨rfl, hb6⟩
      have HB6 := Lib.hid hb6
      clear x0 x1 x2 x3 x4 x5 x6 x7 hb6
      obtain ⟨x0, x1, x2, x3, x4, x5, x6, x7⟩ := HX5.out _ HB6.out
      obtain ⟨y2, y3, y4, y5⟩ := HYc.out _ HB6.out
      go_wp2_with fail
      refine (CF1.out _ (H45.out _ HB6.out)).mono ?_
      rintro e w7 ⟨rfl, hb7⟩
      have HB7 := Lib.hid (HB6.out.trans (hb7.mono HB6.out.size))
      clear x0 x1 x2 x3 x4 x5 x6 x7 y2 y3 y4 y5 hb7 HB6 CH1 CF1 hw1 hw2
      obtain ⟨y2, y3, y4, y5⟩ := HYc.out _ HB7.out
      go_wp2
      clear y2 y3 y4 y5
      go_loopw [8] (fun c wr => ∃ c' : Int, c = .int .i64 c' ∧ sb ≤ c' ∧ c' ≤ t ∧ Hid (Below w5.heap.size w5 wr)) (fun c _ => (t - intOf c).toNat)
      case atStart => exact ⟨sb, rfl, by omega, by omega, HB7⟩
      case round =>
        clear HB7
        obtain ⟨c, rfl, hc1, hc2, HB⟩ := hrel
        obtain ⟨x0, x1, x2, x3, x4, x5, x6, x7⟩ := HX5.out _ HB.out
        by_cases hle : c ≤ hd
        · have hct : c < sb + sw := by rw [← HT.out]; omega
          have CN2 := Lib.hid (CN1.out c wr (H45.out _ HB.out) hc1 hct)
          have CP2 := Lib.hid (fun W (hW : Below w5.heap.size w5 W) => CP1.out c W (H45.out _ hW) hc1 hct)
          obtain ⟨nx, hnx⟩ : ∃ nx, nx = (if c + 1 < sb + sw then c + 1 else so) := ⟨_, rfl⟩
          rw [← hnx] at CN2
          have HNx := Lib.hid hnx
          have hwa : IntKind.i64.wrap (c - sb) = c - sb := IntWalk.i64_in _ (by omega)
          have hwb : IntKind.i64.wrap (c - sb + 1) = c - sb + 1 := IntWalk.i64_in _ (by omega)
          have hwc : IntKind.i64.wrap (c + 1) = c + 1 := IntWalk.i64_in _ (by omega)
          clear hnx hct
          go_wp2_with fail
          refine CN2.out.mono ?_
          rintro e w8 ⟨u, rfl, hu, hb8⟩
          obtain ⟨A8, c8, rfl, hh8⟩ := own_is hu
          have HB8 := Lib.hid (HB.out.trans (hb8.mono HB.out.size))
          have HH8 := Lib.hid hh8
          clear x0 x1 x2 x3 x4 x5 x6 x7 hb8 hu hh8 CN2
          obtain ⟨x0, x1, x2, x3, x4, x5, x6, x7⟩ := HX5.out _ HB8.out
          go_wp2_with fail
          refine (CP2.out _ HB8.out).mono ?_
          rintro e w9 ⟨rfl, hb9⟩
          have HB9 := Lib.hid (HB8.out.trans (hb9.mono HB8.out.size))
          have HH9 := Lib.hid (HH8.out.keep hb9)
          clear x0 x1 x2 x3 x4 x5 x6 x7 hb9 CP2 HB8 HH8
          obtain ⟨y2, y3, y4, y5⟩ := HYc.out _ HB9.out
          have HYf := Lib.hid (fun W (hW : Below w9.heap.size w9 W) => HYc.out W (HB9.out.trans (hW.mono HB9.out.size)))
          by_cases hce : c = hd
          · have HE : Hid (nx = so) := Lib.hid (by
              have h1 := HT.out
              have h2 := HD.out
              rw [HNx.out, if_neg (by omega)])
            subst hce
            obtain rfl := HE.out
            go_wp2_with fail
            have hl : Holds (w9.alloc (.cells #[Iv nx] 3)) (some ⟨w9.heap.size, 0, none⟩) (([nx] : List Int).map Iv) := holds_row (heap_alloc_new _ _) rfl
            refine (sameIntsE_c A8 (some ⟨w9.heap.size, 0, none⟩) c8 1 [nx] (w9.alloc (.cells #[Iv nx] 3)) (HH9.out.keep ((Below.refl _ _).alloc (Nat.le_refl _) _)) hl (by simp)).mono ?_
            clear hl
            rintro e w10 ⟨rfl, n10, rfl⟩
            have HB10 : Hid (Below w9.heap.size w9 ((w9.alloc (.cells #[Iv nx] 3)).drewN n10)) := Lib.hid (below_drewN ((Below.refl _ _).alloc (Nat.le_refl _) _) n10)
            generalize (w9.alloc (.cells #[Iv nx] 3)).drewN n10 = w10 at *
            have HB11 := Lib.hid (HB9.out.trans (HB10.out.mono HB9.out.size))
            clear y2 y3 y4 y5 HH9
            obtain ⟨y2, y3, y4, y5⟩ := HYf.out _ HB10.out
            go_wp2
            go_roundw
            case rel => exact ⟨c + 1, rfl, by omega, by omega, HB11⟩
            case measure => simp only [intOf]; omega
          · have HE : Hid (nx = c + 1) := Lib.hid (by
              have h1 := HT.out
              have h2 := HD.out
              rw [HNx.out, if_pos (by omega)])
            obtain rfl := HE.out
            go_wp2_with fail
            have hl : Holds (w9.alloc (.cells #[Iv (c + 1)] 3)) (some ⟨w9.heap.size, 0, none⟩) (([c + 1] : List Int).map Iv) := holds_row (heap_alloc_new _ _) rfl
            refine (sameIntsE_c A8 (some ⟨w9.heap.size, 0, none⟩) c8 1 [c + 1] (w9.alloc (.cells #[Iv (c + 1)] 3)) (HH9.out.keep ((Below.refl _ _).alloc (Nat.le_refl _) _)) hl (by simp)).mono ?_
            clear hl
            rintro e w10 ⟨rfl, n10, rfl⟩
            have HB10 : Hid (Below w9.heap.size w9 ((w9.alloc (.cells #[Iv (c + 1)] 3)).drewN n10)) := Lib.hid (below_drewN ((Below.refl _ _).alloc (Nat.le_refl _) _) n10)
            generalize (w9.alloc (.cells #[Iv (c + 1)] 3)).drewN n10 = w10 at *
            have HB11 := Lib.hid (HB9.out.trans (HB10.out.mono HB9.out.size))
            clear y2 y3 y4 y5 HH9
            obtain ⟨y2, y3, y4, y5⟩ := HYf.out _ HB10.out
            go_wp2
            go_roundw
            case rel => exact ⟨c + 1, rfl, by omega, by omega, HB11⟩
            case measure => simp only [intOf]; omega
        · have HEx := Lib.hid (H45.out _ HB.out)
          go_wp2
          go_roundw
          case rel => exact ⟨j + 1, by go_num, by omega, HEx⟩
          case measure => simp [intOf]; omega
    · obtain rfl : j = N.spurs.length := by omega
      have HEnd := Lib.hid (HBw.out _ HB.out)
      go_wp2
      go_ret
      exact ⟨rfl, HEnd.out⟩
end Go.Proofs.YtcpoojlhfebcmaaDoor
