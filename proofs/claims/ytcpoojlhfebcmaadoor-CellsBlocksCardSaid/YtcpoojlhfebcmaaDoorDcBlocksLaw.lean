/- CellsBlocks returns true. -/
import Derived.Test.YtcpoojlhfebcmaaDoorDcExample
import Derived.Test.YtcpoojlhfebcmaaDoorMjF
import Derived.Test.YtcpoojlhfebcmaaDoorMjH
import Derived.BigQuiet
namespace Go.Proofs.YtcpoojlhfebcmaaDoor
open Go Go.RowKit Fl

theorem NetOk.basesUp {N : NetD} (hok : NetOk N) : N.spurs.Pairwise (fun x y => x.base < y.base) := by
  rw [List.pairwise_iff_getElem]
  intro i j hi hj hij
  have h1 := hok.behind hij hj
  have h2 := (hok.spurOk _ (List.getElem_mem hi)).slots
  omega
/-- What follows a block ascends. -/
theorem NetOk.nextUp {N : NetD} (hok : NetOk N) {b : Nat} (hb : b < N.next.length) : (N.next[b] ++ spurBases N.spurs b).Pairwise (· < ·) := by
  rw [List.pairwise_append]
  refine ⟨validG_sorted hok.graph hb, ?_, fun x hx y hy => ?_⟩
  · unfold spurBases
    rw [List.pairwise_map]
    exact (hok.basesUp.filter _)
  · have h1 := validG_row hok.graph hb x hx
    obtain ⟨s, hs, rfl⟩ := List.mem_map.1 hy
    obtain ⟨j, hj, rfl⟩ := List.mem_iff_getElem.1 (List.mem_filter.1 hs).1
    have h2 := hok.base_ge hj
    have h3 := hok.lanes
    omega
set_option maxRecDepth 100000 in
set_option maxHeartbeats 8000000 in
theorem cellsBlocks_c (C : Option Addr) (k : Nat) (zs : List Int) (w : World) (hz : IntsAt w w.heap.size C zs) (hzl : zs.length ≤ maxLen) (hp : Pows w) :
    Calls Tryd.prog 5 #[.slice C zs.length k] w fun e w' => e = .returned (.bool true) ∧ Below w.heap.size w w' := by
  have CK := Lib.hid (known9_c w hp)
  have HZ := Lib.hid hz
  have HL := Lib.hid hzl
  have HP := Lib.hid hp
  clear hz hzl hp
  go_enter Tryd.func5, Tryd.ntmps5
  go_wp2_with fail
  refine CK.out.mono ?_
  rintro e w1 ⟨rfl, hb1⟩
  have HT2 := Lib.hid (tape_new (c := k) HZ.out (Nat.le_refl _) hb1 HL.out)
  have HB2 : Hid (Below w.heap.size w (w1.alloc (.cells #[.slice C zs.length k, .int .i64 0] 35))) := Lib.hid (hb1.alloc hb1.size _)
  have HgB : Hid (w.heap.size ≤ w1.heap.size) := Lib.hid hb1.size
  have HS2 : Hid (w1.heap.size < (w1.alloc (.cells #[.slice C zs.length k, .int .i64 0] 35)).heap.size) := Lib.hid (by simp)
  clear hb1 CK HZ HL
  go_wp2_with fail
  refine (loose_c w.heap.size w1.heap.size 0 8 _ HT2.out (by omega) ⟨by omega, by omega⟩ HS2.out HgB.out).mono ?_
  rintro e w3 ⟨N, Ab, An, As, Ar, cb, cn, cs, cr, top, rfl, hN, hM⟩
  have HN := Lib.hid hN
  have H4 := Lib.hid (MadeN.begin hM ⟨HgB.out, HS2.out⟩ HB2.out)
  generalize w1.alloc (.cells #[.slice C zs.length k, .int .i64 0] 35) = w2 at *
  clear hN hM HT2 HB2 HgB HS2
  go_upto_region 4 with fail
  generalize w3.alloc (.cells (netCells Ab An As Ar cb cn cs cr N) 29) = w4 at *
  generalize w3.heap.size = X at *
  have HNt := Lib.hid (fun W (hW : Below w4.heap.size w4 W) => (H4.out.keep hW).nm.at_)
  have HX := Lib.hid (fun W (hW : Below w4.heap.size w4 W) => boxAt_of (H4.out.keep hW).box)
  have HBw := Lib.hid (fun W (hW : Below w4.heap.size w4 W) => (H4.out.keep hW).below)
  have HPw := Lib.hid (fun W (hW : Below w4.heap.size w4 W) => HP.out.keep (HBw.out W hW))
  have HCr := Lib.hid H4.out.nm.capR
  have HOk := Lib.hid HN.out.ok
  have h6 := HOk.out.spurs6
  clear HP H4
  have CCt := Lib.hid (fun W (hW : Below w4.heap.size w4 W) => count_c Ab An As Ar cb cn cs cr N W (HNt.out W hW) HOk.out HCr.out)
  obtain ⟨n, hn⟩ : ∃ n : Nat, cellsN N = (n : Int) := ⟨(cellsN N).toNat, by have := HOk.out.cells_ge; omega⟩
  have hn48 : n ≤ 48 := by
    have h1 := cellsN_le HOk.out.few'
    omega
  have hnb : N.blocks.length ≤ 24 := HOk.out.few
  have CNx := Lib.hid (fun b W (hW : Below w4.heap.size w4 W) (hb : b < N.blocks.length) (hb' : b < N.next.length) => nextB_c Ab An As Ar cb cn cs cr b N W (HNt.out W hW) HOk.out HCr.out hb hb')
  have HLen : Hid (∀ b (hb' : b < N.next.length), (N.next[b] ++ spurBases N.spurs b).length ≤ 24) := Lib.hid (fun b hb' => by
    have h1 := HOk.out.outs _ (List.getElem_mem hb')
    have h2 := spurBases_few N.spurs b
    have h3 := HOk.out.spurs6
    rw [List.length_append]; omega)
  have CFo := Lib.hid (fun b (z : Int) W (hW : Below w4.heap.size w4 W) (hb : b < N.blocks.length) (hb' : b < N.next.length) => follows_c Ab An As Ar cb cn cs cr N b z (N.next[b] ++ spurBases N.spurs b) W (HLen.out b hb') (fun W' hW' => CNx.out b W' (hW.trans (hW'.mono hW.size)) hb hb'))
  have HUp := Lib.hid (fun b (hb' : b < N.next.length) => HOk.out.nextUp hb')
  have HLa := Lib.hid HOk.out.lanes
  have HSp := Lib.hid (fun W (hW : Below w4.heap.size w4 W) => (HNt.out W hW).spurs)
  have HNe := Lib.hid (fun W (hW : Below w4.heap.size w4 W) => (HNt.out W hW).next)
  rw [hn] at CCt
  clear HNt HOk HCr HN HPw hn
  obtain ⟨x0, x1, x2, x3, x4, x5, x6, x7⟩ := HX.out _ (Below.refl _ _)
  go_wp2_with fail
  refine (CCt.out _ (Below.refl _ _)).mono ?_
  rintro e w5 ⟨rfl, hb5⟩
  have HB5 := Lib.hid hb5
  clear x0 x1 x2 x3 x4 x5 x6 x7 hb5 CCt
  go_wp2
  go_loopw [6] (fun i wr => ∃ b : Nat, i = .int .i64 b ∧ b ≤ N.blocks.length ∧ Hid (Below w4.heap.size w4 wr)) (fun i _ => N.blocks.length - (intOf i).toNat)
  case atStart => exact ⟨0, rfl, Nat.zero_le _, HB5⟩
  case round =>
    clear HB5
    obtain ⟨b, rfl, hb, HB⟩ := hrel
    obtain ⟨x0, x1, x2, x3, x4, x5, x6, x7⟩ := HX.out _ HB.out
    by_cases hlt : b < N.blocks.length
    · have hbn : b < N.next.length := by rw [HLa.out]; exact hlt
      have CN1 := Lib.hid (CNx.out b wr HB.out hlt hbn)
      have CF1 := Lib.hid (fun z W (hW : Below w4.heap.size w4 W) => CFo.out b z W hW hlt hbn)
      have HUp1 := Lib.hid (HUp.out b hbn)
      have hl24 := HLen.out b hbn
      have HXl : Hid ((N.next[b] ++ spurBases N.spurs b).length = N.next[b].length + (spurBases N.spurs b).length) := Lib.hid List.length_append
      obtain ⟨bn, on, A1, c1, hAn, hrow, _⟩ := (HNe.out _ HB.out).one hbn
      subst hAn
      clear CNx CFo HUp HLen
      generalize hxs : N.next[b] ++ spurBases N.spurs b = xs at *
      generalize N.next[b].length = rl at *
      clear hxs
      have HRow : Hid (∀ W, Below wr.heap.size wr W → W.cell? ⟨bn, on + b, none⟩ = some (.slice A1 rl c1)) := Lib.hid (fun W hW => (hW.cell (p := ⟨bn, on + b, none⟩) (World.block_lt_of_cell? _ _ hrow)).trans hrow)
      clear hrow
      go_wp2_with fail
      refine CN1.out.mono ?_
      rintro e w8 ⟨u, rfl, hu, hb8⟩
      obtain ⟨A8, c8, rfl, hh8⟩ := own_is hu
      have HB8 := Lib.hid (HB.out.trans (hb8.mono HB.out.size))
      have HH8 := Lib.hid hh8
      have hr8 := HRow.out _ hb8
      clear x0 x1 x2 x3 x4 x5 x6 x7 hb8 hu hh8 CN1 HRow HB
      obtain ⟨x0, x1, x2, x3, x4, x5, x6, x7⟩ := HX.out _ HB8.out
      go_wp2
      clear x0 x1 x2 x3 x4 x5 x6 x7 hr8
      go_loopw [9, 10] (fun z i wr => ∃ m : Nat, i = .int .i64 m ∧ z = .int .i64 ((rl + (spurBases (N.spurs.take m) b).length : Nat) : Int) ∧ m ≤ N.spurs.length ∧ wr = w8) (fun _ i _ => N.spurs.length - (intOf i).toNat)
      case atStart => exact ⟨0, rfl, by simp [spurBases], Nat.zero_le _, rfl⟩
      case round =>
        obtain ⟨m, rfl, rfl, hm, rfl⟩ := hrel
        obtain ⟨x0, x1, x2, x3, x4, x5, x6, x7⟩ := HX.out _ HB8.out
        by_cases hmt : m < N.spurs.length
        · have HE := Lib.hid (congrArg List.length (spurBases_succ (c := (b : Int)) hmt))
          have HF := Lib.hid (spurBases_few (N.spurs.take m) (b : Int))
          obtain ⟨bp, op, rfl, hbp, hsp⟩ := (HSp.out _ HB8.out).spur hmt
          have c2 := hsp.c2
          clear hsp
          generalize N.spurs[m] = x at *
          obtain ⟨nm, dp, xi, xo, xw, xb⟩ := x
          simp only at c2 HE
          have hq6 : (spurBases (N.spurs.take m) b).length ≤ 6 := by
            have := HF.out
            rw [List.length_take] at this
            omega
          by_cases hin : xi = (b : Int)
          · have HE2 : Hid ((spurBases (N.spurs.take (m + 1)) b).length = (spurBases (N.spurs.take m) b).length + 1) := Lib.hid (by rw [HE.out, if_pos hin, List.length_append]; rfl)
            subst hin
            clear HE HF
            generalize (spurBases (N.spurs.take m) b).length = q at *
            obtain ⟨z, hz⟩ : ∃ z, z = rl + q := ⟨_, rfl⟩
            rw [← hz]
            have hrl : rl ≤ 24 := by have := HXl.out; omega
            have HE3 : Hid (z + 1 = rl + (spurBases (N.spurs.take (m + 1)) b).length) := Lib.hid (by rw [HE2.out, hz]; omega)
            have hz100 : z ≤ 100 := by omega
            clear HE2 hz
            go_wp2
            go_roundw
            case rel => exact ⟨m + 1, by go_num, by rw [← HE3.out]; go_num, by omega, by first | rfl | trivial⟩
            case measure => simp [intOf]; omega
          · have HE2 : Hid ((spurBases (N.spurs.take (m + 1)) b).length = (spurBases (N.spurs.take m) b).length) := Lib.hid (by rw [HE.out, if_neg hin, List.append_nil])
            clear HE HF
            go_wp2
            go_roundw
            case rel => exact ⟨m + 1, by go_num, by rw [HE2.out] <;> first | rfl | go_num, by omega, by first | rfl | trivial⟩
            case measure => simp [intOf]; omega
        · obtain rfl : m = N.spurs.length := by omega
          rw [List.take_length, ← HXl.out]
          go_wp2
          clear x0 x1 x2 x3 x4 x5 x6 x7
          have HH24 := Lib.hid hl24
          have HUx : Hid (∀ q (h : q + 1 < xs.length), xs[q] < xs[q + 1]) := Lib.hid (fun q h => (List.pairwise_iff_getElem.1 HUp1.out) q (q + 1) (by omega) h (by omega))
          clear HUp1 HXl hl24
          go_loopw [11] (fun i wr => ∃ z : Nat, i = .int .i64 z ∧ z ≤ n ∧ Hid (Holds wr A8 (xs.map Iv)) ∧ Hid (Below w4.heap.size w4 wr)) (fun i _ => n - (intOf i).toNat)
          case atStart => exact ⟨0, rfl, Nat.zero_le _, HH8, HB8⟩
          case round =>
            clear HH8 HB8
            obtain ⟨z, rfl, hz, HH, HB⟩ := hrel
            obtain ⟨x0, x1, x2, x3, x4, x5, x6, x7⟩ := HX.out _ HB.out
            by_cases hzn : z < n
            · have CF2 := Lib.hid (CF1.out z _ HB.out)
              go_wp2_with fail
              refine CF2.out.mono ?_
              rintro e w9 ⟨rfl, hb9⟩
              have HB9 := Lib.hid (HB.out.trans (hb9.mono HB.out.size))
              have HH9 := Lib.hid (HH.out.keep hb9)
              have CHs := Lib.hid (has_c A8 c8 xs z w9 HH9.out (by have := HH24.out; omega))
              clear x0 x1 x2 x3 x4 x5 x6 x7 hb9 CF2 HB HH
              go_wp2_with fail
              refine CHs.out.mono ?_
              rintro e w10 ⟨rfl, rfl⟩
              clear CHs
              generalize decide ((z : Int) ∈ xs) = q at *
              rcases q with _ | _
              all_goals
                go_wp2
                go_roundw
                case rel => exact ⟨z + 1, by go_num, by omega, HH9, HB9⟩
                case measure => simp [intOf]; omega
            · clear x0 x1 x2 x3 x4 x5 x6 x7
              go_wp2
              go_loopw [12] (fun i wr => ∃ q : Nat, i = .int .i64 ((q + 1 : Nat) : Int) ∧ q ≤ 25 ∧ Hid (Holds wr A8 (xs.map Iv)) ∧ Hid (Below w4.heap.size w4 wr)) (fun i _ => 27 - (intOf i).toNat)
              case atStart => exact ⟨0, rfl, by omega, HH, HB⟩
              case round =>
                clear HH HB
                obtain ⟨q, rfl, hq, HH, HB⟩ := hrel
                by_cases hqt : q + 1 < xs.length
                · have hl24 := HH24.out
                  obtain ⟨b8, o8, rfl, e0⟩ := HH.out.iv (show q < xs.length by omega)
                  obtain ⟨b8', o8', hAe, e1⟩ := HH.out.iv hqt
                  injection hAe with hAe
                  injection hAe with h1 h2
                  subst h1 h2
                  have hlt2 := HUx.out q hqt
                  have hle : ¬ (xs[q + 1] ≤ xs[q]) := by omega
                  have hwk : IntKind.i64.wrap ((q : Int) + 1 - 1) = (q : Int) := by
                    rw [show (q : Int) + 1 - 1 = q by omega]
                    exact IntWalk.i64_in _ (by omega)
                  generalize xs[q + 1] = z1 at *
                  generalize xs[q] = z0 at *
                  go_wp2_with fail
                  go_quiet (fail)
                  rename_i nq
                  have HH2 := Lib.hid (HH.out.keep (below_drewN (Below.refl _ _) nq))
                  have HB2 := Lib.hid (below_drewN HB.out nq)
                  clear HH HB
                  go_wp2
                  go_roundw
                  case rel => exact ⟨q + 1, by go_num, by omega, HH2, HB2⟩
                  case measure => simp [intOf]; omega
                · go_wp2
                  go_roundw
                  case rel => exact ⟨b + 1, by go_num, by omega, HB⟩
                  case measure => simp [intOf]; omega
    · obtain rfl : b = N.blocks.length := by omega
      have HEnd := Lib.hid (HBw.out _ HB.out)
      go_wp2
      go_ret
      exact ⟨rfl, HEnd.out⟩
end Go.Proofs.YtcpoojlhfebcmaaDoor
