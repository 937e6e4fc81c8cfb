/- Contract of the reference's Valid of layer 3, on valid networks. -/
import Derived.Test.YtpdjcccpohnmcaaDoorNtNames
import Derived.Test.YtpdjcccpohnmcaaDoorGrHas
import Derived.Test.YtpdjcccpohnmcaaDoorNtHas
import Derived.IntWalk
namespace Go.Proofs.YtpdjcccpohnmcaaDoor
open Go Go.RowKit Fl

set_option maxRecDepth 100000 in
set_option maxHeartbeats 8000000 in
theorem validNet_c (Ab An As Ar : Option Addr) (cb cn cs cr : Nat) (N : NetD) (w : World) (hN : NetAt w Ab An As Ar N) (hok : NetOk N) (hcr : N.robots.length ≤ cr) :
    Calls Tryd.prog 30 #[.agg #[.slice Ab N.blocks.length cb, .slice An N.next.length cn, .slice As N.spurs.length cs, .slice Ar N.robots.length cr, Iv N.queue, Iv N.aging, Iv N.detours, Iv N.patience]] w fun e w' => e = .returned (.bool true) ∧ Below w.heap.size w w' := by
  have HN := Lib.hid hN
  have HOk := Lib.hid hok
  have h24 := hok.few
  have h6 := hok.spurs6
  have h8 := hok.robots8
  have CB := Lib.hid (fun W (hW : Below w.heap.size w W) => blocks_c Ab An As Ar cb cn cs cr N W (hN.keep hW) hok)
  have CN := Lib.hid (fun W (hW : Below w.heap.size w W) => names_c Ab An As Ar cb cn cs cr N W (hN.keep hW) hok)
  have CC := Lib.hid (fun W => configured_c N.queue N.aging N.detours N.patience W hok.conf)
  have hB0 : Below w.heap.size w (w.alloc (.cells (netCells Ab An As Ar cb cn cs cr N) 29)) := (Below.refl _ _).alloc (Nat.le_refl _) _
  have hX0 := boxAt_of (heap_alloc_new w (.cells (netCells Ab An As Ar cb cn cs cr N) 29))
  have hsz0 : (w.alloc (.cells (netCells Ab An As Ar cb cn cs cr N) 29)).heap.size = w.heap.size + 1 := by simp
  have HX := Lib.hid hX0
  obtain ⟨x0, x1, x2, x3, x4, x5, x6, x7⟩ := hX0
  clear hN hok
  go_enter Tryd.func30, Tryd.ntmps30
  go_wp2_with fail
  generalize w.alloc (.cells (netCells Ab An As Ar cb cn cs cr N) 29) = w0 at *
  have HB0 := Lib.hid hB0
  have hsz1 : w.heap.size < w0.heap.size := by omega
  clear hB0 hsz0
  refine (CB.out w0 HB0.out).mono ?_
  rintro e w1 ⟨rfl, hb1⟩
  have HB1 := Lib.hid hb1
  have HBw1 := Lib.hid (HB0.out.trans (hb1.mono (Nat.le_of_lt hsz1)))
  clear x0 x1 x2 x3 x4 x5 x6 x7 hb1 CB
  obtain ⟨x0, x1, x2, x3, x4, x5, x6, x7⟩ := HX.out.keep hsz1 HB1.out
  go_wp2_with fail
  refine (CN.out w1 HBw1.out).mono ?_
  rintro e w2 ⟨rfl, hb2⟩
  have HB2 := Lib.hid (HB1.out.trans (hb2.mono HB1.out.size))
  have HBw2 := Lib.hid (HBw1.out.trans (hb2.mono HBw1.out.size))
  clear x0 x1 x2 x3 x4 x5 x6 x7 hb2 CN HB1 HBw1
  obtain ⟨x0, x1, x2, x3, x4, x5, x6, x7⟩ := HX.out.keep hsz1 HB2.out
  go_wp2_with fail
  refine (CC.out w2).mono ?_
  rintro e w3 ⟨rfl, hb3⟩
  have HB3 := Lib.hid (HB2.out.trans (hb3.mono HB2.out.size))
  have HBw3 := Lib.hid (HBw2.out.trans (hb3.mono HBw2.out.size))
  clear x0 x1 x2 x3 x4 x5 x6 x7 hb3 CC HB2 HBw2
  obtain ⟨x0, x1, x2, x3, x4, x5, x6, x7⟩ := HX.out.keep hsz1 HB3.out
  go_wp2
  have HW := Lib.hid (fun W (hW : Below w0.heap.size w0 W) => HX.out.keep hsz1 hW)
  have HWN := Lib.hid (fun W (hW : Below w0.heap.size w0 W) => HB0.out.trans (hW.mono (Nat.le_of_lt hsz1)))
  have hb3 := HB3.out
  clear x0 x1 x2 x3 x4 x5 x6 x7 HB3 HBw3 HX
  go_loopw [3, 4, 5] (fun bv dv i wr => ∃ (k : Nat) (z y : Int), i = .int .i64 k ∧ k ≤ N.spurs.length ∧ bv = .int .i64 z ∧ Hid (z = N.blocks.length + slotsK N.spurs k) ∧ 0 ≤ z ∧ z ≤ 24 + 4 * k ∧ dv = .int .i64 y ∧ 0 ≤ y ∧ y ≤ k ∧ Hid (∀ j (h : j < N.spurs.length), j < k → N.spurs[j].depot = true → 0 < y) ∧ Below w0.heap.size w0 wr) (fun _ _ i _ => N.spurs.length - (intOf i).toNat)
  case atStart => exact ⟨0, _, 0, rfl, Nat.zero_le _, rfl, Lib.hid (by simp [slotsK]), by omega, by omega, rfl, by omega, by omega, Lib.hid (fun j h hj => by omega), hb3⟩
  case round =>
    clear hb3
    obtain ⟨k, z, y, rfl, hk, rfl, HZ, hz0, hz1, rfl, hy0, hy1, HY, hb⟩ := hrel
    obtain ⟨x0, x1, x2, x3, x4, x5, x6, x7⟩ := HW.out wr hb
    clear x1 x4 x5 x6 x7
    have hbw := HWN.out wr hb
    by_cases hlt : k < N.spurs.length
    · obtain ⟨b, o, rfl, hbs, hs⟩ := HN.out.spurs.spur hlt
      obtain ⟨c0, c1, c2, c3, c4, c5⟩ := hs.keep hbs hbw
      obtain ⟨⟨i0, i1⟩, ⟨o0, o1⟩, s0, s1⟩ := HOk.out.spurOk _ (List.getElem_mem hlt)
      have hbase := HOk.out.bases k hlt
      have HZ2 := Lib.hid (slotsK_succ hlt)
      have hzb : N.spurs[k].base = z := by rw [hbase, HZ.out]
      have HD : Hid (∀ y', (N.spurs[k].depot = true → 0 < y') → y ≤ y' → ∀ j (h : j < N.spurs.length), j < k + 1 → N.spurs[j].depot = true → 0 < y') := Lib.hid (fun y' h1 h2 j h hj hd => by
        rcases Nat.lt_succ_iff_lt_or_eq.1 hj with h' | rfl
        · have := HY.out j h h' hd; omega
        · exact h1 hd)
      have x0a : ∀ ob, (wr.alloc ob).cell? ⟨w.heap.size, 0, none⟩ = some (.slice Ab N.blocks.length cb) := fun ob => (HW.out _ (hb.alloc hb.size ob)).c0
      clear hs hbase HY
      generalize N.spurs[k] = s at *
      obtain ⟨nm, dp, i, ot, sl, bs⟩ := s
      simp only at c0 c1 c2 c3 c4 c5 i0 i1 o0 o1 s0 s1 hzb HZ2 HD
      subst hzb
      have hbne : (bs != bs) = false := by simp
      have hb2 := fun ob => hb.alloc hb.size ob
      have HB2 := Lib.hid hb2
      clear hb2
      rcases dp with _ | _
      · go_wp2
        go_roundw
        case rel => exact ⟨k + 1, bs + sl, y, by go_num, by omega, rfl, Lib.hid (by rw [HZ2.out, HZ.out]; omega), by omega, by omega, rfl, hy0, by omega, Lib.hid (HD.out y (by simp) (by omega)), HB2.out _⟩
        case measure => simp [intOf]; omega
      · go_wp2
        go_roundw
        case rel => exact ⟨k + 1, bs + sl, y + 1, by go_num, by omega, rfl, Lib.hid (by rw [HZ2.out, HZ.out]; omega), by omega, by omega, rfl, by omega, by omega, Lib.hid (HD.out (y + 1) (by intro _; omega) (by omega)), HB2.out _⟩
        case measure => simp [intOf]; omega
    · have hypos : 0 < y := by
        obtain ⟨s, hs, hd⟩ := HOk.out.depot
        obtain ⟨j, hj, rfl⟩ := List.mem_iff_getElem.1 hs
        exact HY.out j hj (by omega) hd
      clear HY HZ
      go_wp2
      clear x0 x2 x3 hbw
      go_loopw [7] (fun i wr => ∃ (k : Nat), i = .int .i64 k ∧ k ≤ N.robots.length ∧ Below w0.heap.size w0 wr) (fun i _ => N.robots.length - (intOf i).toNat)
      case atStart => exact ⟨0, rfl, Nat.zero_le _, hb⟩
      case round =>
        clear hb
        obtain ⟨k, rfl, hk, hb⟩ := hrel
        obtain ⟨x0, x1, x2, x3, x4, x5, x6, x7⟩ := HW.out wr hb
        clear x0 x1 x4 x5 x6 x7
        have hbw := HWN.out wr hb
        by_cases hlt : k < N.robots.length
        · obtain ⟨br, or_, rfl, er0⟩ := HN.out.robots.iv hlt
          have hbr : br < w.heap.size := World.block_lt_of_cell? _ _ er0
          have HER : Hid (∀ W, Below w.heap.size w W → W.cell? ⟨br, or_ + k, none⟩ = some (.int .i64 N.robots[k])) := Lib.hid (fun W hW => (hW.cell (p := ⟨br, or_ + k, none⟩) hbr).trans er0)
          have HHm := Lib.hid (HOk.out.homes _ (List.getElem_mem hlt))
          have HNd : Hid (decide (N.robots[k] ∈ N.robots.take k) = false) := Lib.hid (by
            rw [decide_eq_false_iff_not]
            intro hmem
            obtain ⟨j, hj, e⟩ := List.mem_iff_getElem.1 hmem
            rw [List.getElem_take] at e
            have hjk : j < k := by rw [List.length_take] at hj; omega
            have := List.pairwise_iff_getElem.1 HOk.out.once j k (by omega) hlt hjk
            exact this e)
          have HHas := Lib.hid (fun W (hW : Below w.heap.size w W) => has_q (some ⟨br, or_, none⟩) cr k N.robots N.robots[k] W (HN.out.robots.keep hW) (by omega) (by omega))
          rw [HNd.out] at HHas
          clear er0 HNd
          generalize N.robots[k] = rb at *
          go_wp2
          clear x2 x3
          go_loopw [8, 9] (fun okv j wr => ∃ (m : Nat) (okb : Bool), j = .int .i64 m ∧ m ≤ N.spurs.length ∧ okv = .bool okb ∧ Hid (okb = true ∨ ∀ j (h : j < N.spurs.length), j < m → ¬ holdsR N.spurs[j] rb) ∧ Below w0.heap.size w0 wr) (fun _ j _ => N.spurs.length - (intOf j).toNat)
          case atStart => exact ⟨0, false, rfl, Nat.zero_le _, rfl, Lib.hid (.inr fun j h hj => by omega), hb⟩
          case round =>
            clear hb hbw
            obtain ⟨m, okb, rfl, hm, rfl, HK, hb⟩ := hrel
            obtain ⟨x0, x1, x2, x3, x4, x5, x6, x7⟩ := HW.out wr hb
            clear x0 x1 x4 x5 x6 x7
            have hbw := HWN.out wr hb
            by_cases hmt : m < N.spurs.length
            · obtain ⟨b, o, rfl, hbs, hs⟩ := HN.out.spurs.spur hmt
              obtain ⟨c0, c1, c2, c3, c4, c5⟩ := hs.keep hbs hbw
              obtain ⟨_, _, s0, s1⟩ := HOk.out.spurOk _ (List.getElem_mem hmt)
              have hsb := slotsK_bounds (l := N.spurs) (fun s hs => by have := (HOk.out.spurOk s hs).slots; omega) m (by omega)
              have hbase := HOk.out.bases m hmt
              have hbb : 0 ≤ N.spurs[m].base ∧ N.spurs[m].base ≤ 100 := by omega
              have HK2 : Hid (∀ ok', (ok' = true ∨ okb = ok' ∧ ¬ holdsR N.spurs[m] rb) → ok' = true ∨ ∀ j (h : j < N.spurs.length), j < m + 1 → ¬ holdsR N.spurs[j] rb) := Lib.hid (fun ok' h => by
                rcases h with h | ⟨rfl, h⟩
                · exact .inl h
                · rcases HK.out with h2 | h2
                  · exact .inl h2
                  · refine .inr fun j hj hjm => ?_
                    rcases Nat.lt_succ_iff_lt_or_eq.1 hjm with h' | rfl
                    · exact h2 j hj h'
                    · exact h)
              have x3a : ∀ ob, (wr.alloc ob).cell? ⟨w.heap.size, 3, none⟩ = some (.slice (some ⟨br, or_, none⟩) N.robots.length cr) := fun ob => (HW.out _ (hb.alloc hb.size ob)).c3
              have era : ∀ ob, (wr.alloc ob).cell? ⟨br, or_ + k, none⟩ = some (.int .i64 rb) := fun ob => HER.out _ (hbw.alloc hbw.size ob)
              clear hs hsb hbase HK
              generalize N.spurs[m] = s at *
              obtain ⟨nm, dp, i, ot, sl, bs⟩ := s
              simp only at c0 c1 c2 c3 c4 c5 s0 s1 hbb HK2
              obtain ⟨hbb0, hbb1⟩ := hbb
              have hw1 : IntKind.i64.wrap (bs + sl) = bs + sl := IntWalk.i64_in _ (by omega)
              have hb2 := fun ob => hb.alloc hb.size ob
              have HB2 := Lib.hid hb2
              clear hb2
              have hcase : okb = true ∨ okb = false ∧ dp = false ∨ okb = false ∧ dp = true ∧ decide (bs ≤ rb) = false ∨ okb = false ∧ dp = true ∧ decide (bs ≤ rb) = true ∧ decide (rb < bs + sl) = false ∨ okb = false ∧ dp = true ∧ decide (bs ≤ rb) = true ∧ decide (rb < bs + sl) = true := by
                rcases okb with _ | _ <;> rcases dp with _ | _ <;> rcases decide (bs ≤ rb) with _ | _ <;> rcases decide (rb < bs + sl) with _ | _ <;> simp
              rcases hcase with rfl | ⟨rfl, rfl⟩ | ⟨rfl, rfl, hd1⟩ | ⟨rfl, rfl, hd1, hd2⟩ | ⟨rfl, rfl, hd1, hd2⟩
              · clear HK2
                go_wp2
                go_quiet (fail)
                go_wp2
                go_roundw
                case rel => exact ⟨m + 1, true, by go_num, by omega, rfl, Lib.hid (.inl rfl), below_drewN (HB2.out _) _⟩
                case measure => simp [intOf]; omega
              · have HK3 := Lib.hid (HK2.out false (.inr ⟨rfl, by rintro ⟨h, _⟩; cases h⟩))
                clear HK2
                go_wp2
                go_quiet (fail)
                go_wp2
                go_roundw
                case rel => exact ⟨m + 1, false, by go_num, by omega, rfl, HK3, below_drewN (HB2.out _) _⟩
                case measure => simp [intOf]; omega
              · have HK3 := Lib.hid (HK2.out false (.inr ⟨rfl, by rintro ⟨_, h, _⟩; rw [decide_eq_false_iff_not] at hd1; exact hd1 h⟩))
                clear HK2
                go_wp2
                go_quiet (fail)
                go_wp2
                go_roundw
                case rel => exact ⟨m + 1, false, by go_num, by omega, rfl, HK3, below_drewN (HB2.out _) _⟩
                case measure => simp [intOf]; omega
              · have HK3 := Lib.hid (HK2.out false (.inr ⟨rfl, by rintro ⟨_, _, h⟩; rw [decide_eq_false_iff_not] at hd2; exact hd2 h⟩))
                clear HK2
                go_wp2
                go_quiet (fail)
                go_wp2
                go_roundw
                case rel => exact ⟨m + 1, false, by go_num, by omega, rfl, HK3, below_drewN (HB2.out _) _⟩
                case measure => simp [intOf]; omega
              · clear HK2
                go_wp2
                go_quiet (fail)
                go_wp2
                go_roundw
                case rel => exact ⟨m + 1, true, by go_num, by omega, rfl, Lib.hid (.inl rfl), below_drewN (HB2.out _) _⟩
                case measure => simp [intOf]; omega
            · have hokt : okb = true := by
                rcases HK.out with h | h
                · exact h
                · exfalso
                  obtain ⟨s, hs, h1, h2, h3⟩ := HHm.out
                  obtain ⟨j, hj, rfl⟩ := List.mem_iff_getElem.1 hs
                  exact h j hj (by omega) ⟨h1, h2, h3⟩
              subst hokt
              have er := HER.out wr hbw
              have hkc : k ≤ cr := by omega
              have HHd := Lib.hid (fun n => HHas.out (wr.drewN n) (below_drewN hbw n))
              clear HK
              go_wp2
              go_quiet ((go_at_call 26; exact Calls.quiet_of_same (HHd.out _)))
              go_wp2
              go_roundw
              case rel => exact ⟨k + 1, by go_num, by omega, below_drewN hb _⟩
              case measure => simp [intOf]; omega
        · go_wp2
          go_ret
          exact ⟨gr_bool (by simp), hbw⟩
end Go.Proofs.YtpdjcccpohnmcaaDoor
