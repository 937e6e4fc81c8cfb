/- Joined texts. -/
import Derived.Test.YtjbhmeeebacnpaaMzAY
import Derived.Test.YtjbhmeeebacnpaaMzAD
import Derived.Test.YtjbhmeeebacnpaaMzAE
import Derived.Test.YtjbhmeeebacnpaaMzAF
import Derived.Test.YtjbhmeeebacnpaaMzAX
import Derived.Test.YtjbhmeeebacnpaaMzAC
namespace Go.Proofs.Ytjbhmeeebacnpaa
open Go Go.RowKit Fl

set_option maxRecDepth 100000 in
set_option maxHeartbeats 4000000 in
theorem depotOfX_c (Ab An As Ar : Option Addr) (cb cn cs cr : Nat) (N : NetD) (x : Int) (w : World) (hN : NetAt w Ab An As Ar N) (h6 : N.spurs.length ≤ 6) (hb : ∀ s ∈ N.spurs, (0 ≤ s.slots ∧ s.slots ≤ 4) ∧ 0 ≤ s.base ∧ s.base ≤ 100) :
    Calls Try.prog 88 #[.agg #[.slice Ab N.blocks.length cb, .slice An N.next.length cn, .slice As N.spurs.length cs, .slice Ar N.robots.length cr, Iv N.queue, Iv N.aging, Iv N.detours, Iv N.patience], .int .i64 x] w fun e w' => (∃ (nm : List UInt8) (k : Int) (b : Bool), e = .returned (.tuple #[Sv nm, .int .i64 k, .bool b]) ∧ (b = true ↔ inDepot N.spurs x)) ∧ Below w.heap.size w w' := by
  have HS := Lib.hid hN.spurs
  have HB := Lib.hid hb
  have hB0 := Lib.hid ((Below.refl w.heap.size w).alloc (Nat.le_refl _) (.cells (netCells Ab An As Ar cb cn cs cr N) 29))
  obtain ⟨_, _, y2, _⟩ := boxAt_of (heap_alloc_new w (.cells (netCells Ab An As Ar cb cn cs cr N) 29))
  clear hN hb
  go_enter Try.func88, Try.ntmps88
  go_wp2
  generalize w.alloc (.cells (netCells Ab An As Ar cb cn cs cr N) 29) = w0 at *
  go_loopw [12] (fun i wr => ∃ (j : Nat), i = .int .i64 j ∧ j ≤ N.spurs.length ∧ Hid (¬ HeldTo N.spurs x j) ∧ Hid (Below w.heap.size w wr)) (fun i _ => N.spurs.length - (intOf i).toNat)
  case atStart => exact ⟨0, rfl, Nat.zero_le _, Lib.hid HeldTo.zero, hB0⟩
  case round =>
    obtain ⟨j, rfl, hj, HK, HBw⟩ := hrel
    by_cases hjl : j < N.spurs.length
    · obtain ⟨b, o, rfl, hbl, hs⟩ := HS.out.spur hjl
      obtain ⟨c0, c1, c2, c3, c4, c5⟩ := hs.keep hbl HBw.out
      have HBa : Hid (∀ ob, Below w.heap.size w (wr.alloc ob)) := Lib.hid (fun ob => HBw.out.alloc HBw.out.size ob)
      obtain ⟨⟨s1, s2⟩, s3, s4⟩ := HB.out _ (List.getElem_mem hjl)
      have HNot : Hid (¬ holdsR N.spurs[j] x → ¬ HeldTo N.spurs x (j + 1)) := Lib.hid (fun h h2 => ((HeldTo.succ hjl).1 h2).elim HK.out h)
      have HYes : Hid (holdsR N.spurs[j] x → inDepot N.spurs x) := Lib.hid (fun h => ⟨_, List.getElem_mem hjl, h⟩)
      clear hs HK
      generalize N.spurs[j] = s at *
      obtain ⟨nm, dp, si, so, sw, sb⟩ := s
      simp only at c0 c1 c2 c3 c4 c5 s1 s2 s3 s4
      have hw1 : IntKind.i64.wrap (sb + sw) = sb + sw := IntWalk.i64_in _ (by omega)
      have hw2 : IntKind.i64.wrap (sb + sw - 1) = sb + sw - 1 := IntWalk.i64_in _ (by omega)
      rcases dp with _ | _
      · have HN2 := Lib.hid (HNot.out (fun h => Bool.false_ne_true h.1))
        clear HNot HYes
        go_wp2
        go_roundw
        case rel => exact ⟨j + 1, by go_num, by omega, HN2, Lib.hid (HBa.out _)⟩
        case measure => simp [intOf]; omega
      · by_cases hz : sb ≤ x ∧ x ≤ sb + sw - 1
        · have HY : Hid (inDepot N.spurs x) := Lib.hid (HYes.out ⟨rfl, hz.1, by simp only; omega⟩)
          have CB := Lib.hid (fun W => between_t x sb (sb + sw - 1) W hz.1 hz.2)
          have hw3 : IntKind.i64.wrap (x - sb) = x - sb := IntWalk.i64_in _ (by omega)
          have hw4 : IntKind.i64.wrap (x - sb + 1) = x - sb + 1 := IntWalk.i64_in _ (by omega)
          clear HNot HYes hz
          go_wp2_with fail
          refine (CB.out _).mono ?_
          rintro e w1 ⟨rfl, rfl⟩
          go_wp2_with fail
          go_quiet (fail)
          go_wp2
          go_ret3
          exact ⟨⟨_, _, true, rfl, ⟨fun _ => HY.out, fun _ => rfl⟩⟩, below_drewN (HBa.out _) _⟩
        · have CB := Lib.hid (fun W => between_f x sb (sb + sw - 1) W hz)
          have HN2 := Lib.hid (HNot.out (fun h => hz ⟨h.2.1, by have := h.2.2; simp only at this; omega⟩))
          clear HNot HYes hz
          go_wp2_with fail
          refine (CB.out _).mono ?_
          rintro e w1 ⟨rfl, rfl⟩
          go_wp2
          go_roundw
          case rel => exact ⟨j + 1, by go_num, by omega, HN2, Lib.hid (HBa.out _)⟩
          case measure => simp [intOf]; omega
    · obtain rfl : j = N.spurs.length := by omega
      have HNo : Hid (¬ inDepot N.spurs x) := Lib.hid (fun h => HK.out (HeldTo.all.2 h))
      go_wp2
      go_ret3
      exact ⟨⟨[], 0, false, rfl, ⟨fun h => absurd h Bool.false_ne_true, fun h => absurd h HNo.out⟩⟩, HBw.out⟩
set_option maxRecDepth 100000 in
set_option maxHeartbeats 8000000 in
theorem devRobotsX_c (Ab An As Ar : Option Addr) (cb cn cs cr : Nat) (N : NetD) (w : World) (hN : NetAt w Ab An As Ar N) (hs : SpursOk N) (h24 : N.blocks.length ≤ 24) (hcr : N.robots.length ≤ cr) :
    Calls Try.prog 78 #[.agg #[.slice Ab N.blocks.length cb, .slice An N.next.length cn, .slice As N.spurs.length cs, .slice Ar N.robots.length cr, Iv N.queue, Iv N.aging, Iv N.detours, Iv N.patience]] w (Exact (RobOk N) w) := by
  have HR := Lib.hid hN.robots
  have hB0 := Lib.hid ((Below.refl w.heap.size w).alloc (Nat.le_refl _) (.cells (netCells Ab An As Ar cb cn cs cr N) 29))
  have hbs : ∀ s ∈ N.spurs, (0 ≤ s.slots ∧ s.slots ≤ 4) ∧ 0 ≤ s.base ∧ s.base ≤ 100 := fun s hm => by
    obtain ⟨k, hk, rfl⟩ := List.mem_iff_getElem.1 hm
    have h1 := (hs.each k hk).slots
    have h2 := (hs.each k hk).base
    have h3 := slotsK_bounds (l := N.spurs) (fun s hm => by obtain ⟨j, hj, rfl⟩ := List.mem_iff_getElem.1 hm; have := (hs.each j hj).slots; omega) k (by omega)
    have h5 := hs.few
    omega
  have CD := Lib.hid (fun W x (hW : Below w.heap.size w W) => depotOfX_c Ab An As Ar cb cn cs cr N x W (hN.keep hW) hs.few hbs)
  have HX := Lib.hid (boxAt_of (heap_alloc_new w (.cells (netCells Ab An As Ar cb cn cs cr N) 29)))
  have hsz0 : w.heap.size < (w.alloc (.cells (netCells Ab An As Ar cb cn cs cr N) 29)).heap.size := by simp
  obtain ⟨_, _, _, x3, _, _, _, _⟩ := boxAt_of (heap_alloc_new w (.cells (netCells Ab An As Ar cb cn cs cr N) 29))
  clear hN hbs hs
  by_cases h8 : N.robots.length ≤ 8
  rotate_left
  · have HB : Hid (¬ RobOk N) := Lib.hid (fun h => h8 h.few)
    have h8i : (8 : Int) < (N.robots.length : Int) := by omega
    go_enter Try.func78, Try.ntmps78
    go_wp2
    go_ret
    exact .no HB.out hB0.out
  have h8i : ¬ (8 : Int) < (N.robots.length : Int) := by omega
  go_enter Try.func78, Try.ntmps78
  go_wp2
  generalize w.alloc (.cells (netCells Ab An As Ar cb cn cs cr N) 29) = w0 at *
  go_loopw [15] (fun i wr => ∃ (k : Nat), i = .int .i64 k ∧ k ≤ N.robots.length ∧ Hid (PreRobs N k) ∧ Hid (Below w0.heap.size w0 wr)) (fun i _ => N.robots.length - (intOf i).toNat)
  case atStart => exact ⟨0, rfl, Nat.zero_le _, Lib.hid (PreRobs.zero _), Lib.hid (Below.refl _ _)⟩
  case round =>
    clear x3
    obtain ⟨k, rfl, hk, HP, HB⟩ := hrel
    by_cases hlt : k < N.robots.length
    · have hbw : Below w.heap.size w wr := hB0.out.trans (HB.out.mono (Nat.le_of_lt hsz0))
      obtain ⟨x0, x1, x2, x3, x4, x5, x6, x7⟩ := HX.out.keep hsz0 HB.out
      obtain ⟨b, o, hA, e1⟩ := (HR.out.keep hbw).iv hlt
      have CD2 := Lib.hid (CD.out wr N.robots[k] hbw)
      have HSt : Hid (inDepot N.spurs N.robots[k] → N.robots[k] ∉ N.robots.take k → PreRobs N (k + 1)) := Lib.hid (HP.out.step hlt)
      have HNo : Hid (¬ (inDepot N.spurs N.robots[k] ∧ N.robots[k] ∉ N.robots.take k) → ¬ RobOk N) := Lib.hid (fun h h2 => h (h2.at_ hlt))
      have CQ := Lib.hid (fun W (hW : Below w.heap.size w W) => cont_q Ar cr k N.robots N.robots[k] W (HR.out.keep hW) hk (by omega))
      have HXW := Lib.hid (fun W (hW : Below wr.heap.size wr W) => (HX.out.keep hsz0 (HB.out.trans (hW.mono HB.out.size))).c3)
      have HBW := Lib.hid (fun W (hW : Below wr.heap.size wr W) => HB.out.trans (hW.mono HB.out.size))
      subst hA
      clear hbw HB CD HP
      generalize N.robots[k] = x at *
      go_wp2_with fail
      refine CD2.out.mono ?_
      rintro e w2 ⟨⟨nm, kk, bb, rfl, hbb⟩, hb2⟩
      have x3b := HXW.out _ hb2
      have HB2 := Lib.hid (HBW.out _ hb2)
      have hbw2 : Below w.heap.size w w2 := hB0.out.trans (HB2.out.mono (Nat.le_of_lt hsz0))
      have HBw2 := Lib.hid hbw2
      have CQ2 := Lib.hid (CQ.out w2 hbw2)
      have HBb := Lib.hid hbb
      have hkc : k ≤ cr := by omega
      clear hb2 hbw2 CQ CD2 HXW HBW x0 x1 x2 x3 x4 x5 x6 x7 e1 hbb
      rcases bb with _ | _
      · have HBad : Hid (¬ RobOk N) := Lib.hid (HNo.out (fun h => Bool.false_ne_true (HBb.out.2 h.1)))
        clear HNo HSt HBb CQ2
        go_wp2
        go_ret
        exact .no HBad.out HBw2.out
      · have HIn := Lib.hid (HBb.out.1 rfl)
        by_cases hmem : x ∈ N.robots.take k
        · have HBad : Hid (¬ RobOk N) := Lib.hid (HNo.out (fun h => h.2 hmem))
          rw [decide_eq_true hmem] at CQ2
          clear HNo HSt HBb hmem
          go_wp2_with fail
          refine CQ2.out.mono ?_
          rintro e w3 ⟨rfl, rfl⟩
          go_wp2
          go_ret
          exact .no HBad.out HBw2.out
        · have HP2 := Lib.hid (HSt.out HIn.out hmem)
          rw [decide_eq_false hmem] at CQ2
          clear HNo HSt HBb hmem
          go_wp2_with fail
          refine CQ2.out.mono ?_
          rintro e w3 ⟨rfl, rfl⟩
          go_wp2
          go_roundw
          case rel => exact ⟨k + 1, by go_num, by omega, HP2, HB2⟩
          case measure => simp [intOf]; omega
    · obtain rfl : k = N.robots.length := by omega
      have HG := Lib.hid (HP.out.all h8)
      go_wp2
      go_ret
      exact .yes HG.out (hB0.out.trans (HB.out.mono (Nat.le_of_lt hsz0)))
theorem netOk_dev (N : NetD) : NetOk N ↔ BlocksD N ∧ SpursD N ∧ (namesN N).Nodup ∧ RobOk N ∧ ConfOk N.queue N.aging N.detours N.patience := by
  rw [netOk_iff]
  constructor
  · rintro ⟨h1, h2, h3, h4, h5, h6, h7⟩
    exact ⟨⟨h1, fun b hb => h4 _ (List.mem_append_left _ (List.mem_map.2 ⟨b, hb, rfl⟩))⟩, ⟨h2, h3, fun s hs => h4 _ (List.mem_append_right _ (List.mem_map.2 ⟨s, hs, rfl⟩))⟩, h5, h6, h7⟩
  · rintro ⟨⟨h1, a1⟩, ⟨h2, h3, a2⟩, h5, h6, h7⟩
    refine ⟨h1, h2, h3, fun s hs => ?_, h5, h6, h7⟩
    rcases List.mem_append.1 hs with h | h
    · obtain ⟨b, hb, rfl⟩ := List.mem_map.1 h
      exact a1 b hb
    · obtain ⟨b, hb, rfl⟩ := List.mem_map.1 h
      exact a2 b hb
set_option maxRecDepth 100000 in
set_option maxHeartbeats 8000000 in
theorem netValidX_c (Ab An As Ar : Option Addr) (cb cn cs cr : Nat) (N : NetD) (w : World) (hN : NetAt w Ab An As Ar N) (hl : NetLen N) (hcr : N.robots.length ≤ cr) :
    Calls Try.prog 65 #[.agg #[.slice Ab N.blocks.length cb, .slice An N.next.length cn, .slice As N.spurs.length cs, .slice Ar N.robots.length cr, Iv N.queue, Iv N.aging, Iv N.detours, Iv N.patience]] w (Exact (NetOk N) w) := by
  have HIff := Lib.hid (netOk_dev N)
  have C1 := Lib.hid (fun W (hW : Below w.heap.size w W) => devBlocksX_c Ab An As Ar cb cn cs cr N W (hN.keep hW) hl)
  have C2 := Lib.hid (fun W (hW : Below w.heap.size w W) (hb : BlocksD N) => devSpursX_c Ab An As Ar cb cn cs cr N W (hN.keep hW) hl hb.1.size.1 hb.1.size.2)
  have C3 := Lib.hid (fun W (hW : Below w.heap.size w W) (hb : BlocksD N) (hs : SpursD N) => distinctX_c Ab An As Ar cb cn cs cr N W (hN.keep hW) hb.1.size.2 hs.1.few (fun s h => by
    rcases List.mem_append.1 h with h | h
    · obtain ⟨b, hb', rfl⟩ := List.mem_map.1 h
      exact hb.2 b hb'
    · obtain ⟨b, hb', rfl⟩ := List.mem_map.1 h
      exact hs.2.2 b hb'))
  have C4 := Lib.hid (fun W (hW : Below w.heap.size w W) (hb : BlocksD N) (hs : SpursD N) => devRobotsX_c Ab An As Ar cb cn cs cr N W (hN.keep hW) hs.1 hb.1.size.2 hcr)
  have C5 := Lib.hid (fun W => devConfigX_c N.queue N.aging N.detours N.patience W)
  have hB0 := Lib.hid ((Below.refl w.heap.size w).alloc (Nat.le_refl _) (.cells (netCells Ab An As Ar cb cn cs cr N) 29))
  have HX := Lib.hid (boxAt_of (heap_alloc_new w (.cells (netCells Ab An As Ar cb cn cs cr N) 29)))
  have hsz0 : w.heap.size < (w.alloc (.cells (netCells Ab An As Ar cb cn cs cr N) 29)).heap.size := by simp
  obtain ⟨x0, x1, x2, x3, x4, x5, x6, x7⟩ := boxAt_of (heap_alloc_new w (.cells (netCells Ab An As Ar cb cn cs cr N) 29))
  clear hN hl
  go_enter Try.func65, Try.ntmps65
  go_wp2_with fail
  generalize w.alloc (.cells (netCells Ab An As Ar cb cn cs cr N) 29) = w0 at *
  refine (C1.out _ hB0.out).mono ?_
  intro e w1 hE
  obtain ⟨hE, hb1⟩ := hE.use
  have HB1 : Hid (Below w0.heap.size w0 w1) := Lib.hid hb1
  clear x0 x1 x2 x3 x4 x5 x6 x7 hb1
  obtain ⟨x0, x1, x2, x3, x4, x5, x6, x7⟩ := HX.out.keep hsz0 HB1.out
  obtain ⟨hg, rfl⟩ | ⟨hg, rfl⟩ := hE
  rotate_left
  · have HB : Hid (¬ NetOk N) := Lib.hid (fun h => hg (HIff.out.1 h).1)
    clear hg
    go_wp2
    go_ret
    exact .no HB.out (hB0.out.trans (HB1.out.mono (Nat.le_of_lt hsz0)))
  have G1 := Lib.hid hg
  clear hg
  go_wp2_with fail
  refine (C2.out _ (hB0.out.trans (HB1.out.mono (Nat.le_of_lt hsz0))) G1.out).mono ?_
  intro e w2 hE
  obtain ⟨hE, hb2⟩ := hE.use
  have HB2 : Hid (Below w0.heap.size w0 w2) := Lib.hid (HB1.out.trans (hb2.mono HB1.out.size))
  clear x0 x1 x2 x3 x4 x5 x6 x7 hb2 HB1
  obtain ⟨x0, x1, x2, x3, x4, x5, x6, x7⟩ := HX.out.keep hsz0 HB2.out
  obtain ⟨hg, rfl⟩ | ⟨hg, rfl⟩ := hE
  rotate_left
  · have HB : Hid (¬ NetOk N) := Lib.hid (fun h => hg (HIff.out.1 h).2.1)
    clear hg
    go_wp2
    go_ret
    exact .no HB.out (hB0.out.trans (HB2.out.mono (Nat.le_of_lt hsz0)))
  have G2 := Lib.hid hg
  clear hg
  go_wp2_with fail
  refine (C3.out _ (hB0.out.trans (HB2.out.mono (Nat.le_of_lt hsz0))) G1.out G2.out).mono ?_
  intro e w3 hE
  obtain ⟨hE, hb3⟩ := hE.use
  have HB3 : Hid (Below w0.heap.size w0 w3) := Lib.hid (HB2.out.trans (hb3.mono HB2.out.size))
  clear x0 x1 x2 x3 x4 x5 x6 x7 hb3 HB2
  obtain ⟨x0, x1, x2, x3, x4, x5, x6, x7⟩ := HX.out.keep hsz0 HB3.out
  obtain ⟨hg, rfl⟩ | ⟨hg, rfl⟩ := hE
  rotate_left
  · have HB : Hid (¬ NetOk N) := Lib.hid (fun h => hg (HIff.out.1 h).2.2.1)
    clear hg
    go_wp2
    go_ret
    exact .no HB.out (hB0.out.trans (HB3.out.mono (Nat.le_of_lt hsz0)))
  have G3 := Lib.hid hg
  clear hg
  go_wp2_with fail
  refine (C4.out _ (hB0.out.trans (HB3.out.mono (Nat.le_of_lt hsz0))) G1.out G2.out).mono ?_
  intro e w4 hE
  obtain ⟨hE, hb4⟩ := hE.use
  have HB4 : Hid (Below w0.heap.size w0 w4) := Lib.hid (HB3.out.trans (hb4.mono HB3.out.size))
  clear x0 x1 x2 x3 x4 x5 x6 x7 hb4 HB3
  obtain ⟨x0, x1, x2, x3, x4, x5, x6, x7⟩ := HX.out.keep hsz0 HB4.out
  obtain ⟨hg, rfl⟩ | ⟨hg, rfl⟩ := hE
  rotate_left
  · have HB : Hid (¬ NetOk N) := Lib.hid (fun h => hg (HIff.out.1 h).2.2.2.1)
    clear hg
    go_wp2
    go_ret
    exact .no HB.out (hB0.out.trans (HB4.out.mono (Nat.le_of_lt hsz0)))
  have G4 := Lib.hid hg
  clear hg
  go_wp2_with fail
  refine (C5.out _).mono ?_
  intro e w5 hE
  obtain ⟨hE, hb5⟩ := hE.use
  have HB5 : Hid (Below w0.heap.size w0 w5) := Lib.hid (HB4.out.trans (hb5.mono HB4.out.size))
  clear hb5
  obtain ⟨hg, rfl⟩ | ⟨hg, rfl⟩ := hE
  · have HG : Hid (NetOk N) := Lib.hid (HIff.out.2 ⟨G1.out, G2.out, G3.out, G4.out, hg⟩)
    clear hg
    go_wp2
    go_ret
    exact .yes HG.out (hB0.out.trans (HB5.out.mono (Nat.le_of_lt hsz0)))
  · have HB : Hid (¬ NetOk N) := Lib.hid (fun h => hg (HIff.out.1 h).2.2.2.2)
    clear hg
    go_wp2
    go_ret
    exact .no HB.out (hB0.out.trans (HB5.out.mono (Nat.le_of_lt hsz0)))
end Go.Proofs.Ytjbhmeeebacnpaa
namespace Go.Proofs.Ytjbhmeeebacnpaa
open Go Go.RowKit Fl

open Classical in
/-- The first error of a network and a cell. -/
noncomputable def cellE (N : NetD) (c : Int) : Int := if NetOk N then rangeE N c else 20
theorem cellE_ok {N : NetD} {c : Int} (h : NetOk N) (hc : inN N c) : cellE N c = 0 := by unfold cellE; rw [if_pos h]; exact if_pos hc
theorem cellE_out {N : NetD} {c : Int} (h : NetOk N) (hc : ¬ inN N c) : cellE N c = 19 := by unfold cellE; rw [if_pos h]; exact if_neg hc
theorem cellE_no {N : NetD} {c : Int} (h : ¬ NetOk N) : cellE N c = 20 := by unfold cellE; rw [if_neg h]
theorem cellE_zero {N : NetD} {c : Int} (h : cellE N c = 0) : NetOk N ∧ inN N c := by
  by_cases h1 : NetOk N
  · by_cases h2 : inN N c
    · exact ⟨h1, h2⟩
    · rw [cellE_out h1 h2] at h; omega
  · rw [cellE_no h1] at h; omega
set_option maxHeartbeats 4000000 in
theorem count_none (Ab An As Ar : Option Addr) (cb cn cs cr : Nat) (N : NetD) (w : World) (hN : NetAt w Ab An As Ar N) (hl : NetLen N) (hok : ¬ NetOk N) (hcr : N.robots.length ≤ cr) :
    Calls Try.prog 55 #[.agg #[.slice Ab N.blocks.length cb, .slice An N.next.length cn, .slice As N.spurs.length cs, .slice Ar N.robots.length cr, Iv N.queue, Iv N.aging, Iv N.detours, Iv N.patience]] w fun e w' => e = .returned (.tuple #[.int .i64 0, .int .i64 20]) ∧ Below w.heap.size w w' := by
  have CV := Lib.hid (fun W (hW : Below w.heap.size w W) => netValidX_c Ab An As Ar cb cn cs cr N W (hN.keep hW) hl hcr)
  have HNo := Lib.hid hok
  have hB0 := Lib.hid ((Below.refl w.heap.size w).alloc (Nat.le_refl _) (.cells (netCells Ab An As Ar cb cn cs cr N) 29))
  have hsz0 : w.heap.size < (w.alloc (.cells (netCells Ab An As Ar cb cn cs cr N) 29)).heap.size := by simp
  obtain ⟨x0, x1, x2, x3, x4, x5, x6, x7⟩ := boxAt_of (heap_alloc_new w (.cells (netCells Ab An As Ar cb cn cs cr N) 29))
  clear hN hok hl
  go_enter Try.func55, Try.ntmps55
  go_wp2_with fail
  generalize w.alloc (.cells (netCells Ab An As Ar cb cn cs cr N) 29) = w0 at *
  refine (CV.out _ hB0.out).mono ?_
  intro e w1 hE
  obtain ⟨⟨hg, rfl⟩ | ⟨_, rfl⟩, hb1⟩ := hE.use
  · exact absurd hg HNo.out
  have HB1 := Lib.hid (hB0.out.trans (hb1.mono (Nat.le_of_lt hsz0)))
  clear x0 x1 x2 x3 x4 x5 x6 x7 hb1 CV hE
  go_wp2
  go_ret2
  exact ⟨rfl, HB1.out⟩
open Classical in
noncomputable def placeX (N : NetD) (c : Int) : Int × Int := if NetOk N then placeN N c else (0, 0)
set_option maxHeartbeats 4000000 in
theorem placeX_c (Ab An As Ar : Option Addr) (cb cn cs cr : Nat) (N : NetD) (c : Int) (w : World) (hN : NetAt w Ab An As Ar N) (hl : NetLen N) (hcr : N.robots.length ≤ cr) :
    Calls Try.prog 42 #[.agg #[.slice Ab N.blocks.length cb, .slice An N.next.length cn, .slice As N.spurs.length cs, .slice Ar N.robots.length cr, Iv N.queue, Iv N.aging, Iv N.detours, Iv N.patience], .int .i64 c] w fun e w' => e = .returned (.tuple #[.int .i64 (placeX N c).1, .int .i64 (placeX N c).2, .int .i64 (cellE N c)]) ∧ Below w.heap.size w w' := by
  by_cases hok : NetOk N
  · have h := place_c Ab An As Ar cb cn cs cr N c w hN hok hcr
    have e1 : placeX N c = placeN N c := if_pos hok
    have e2 : cellE N c = rangeE N c := if_pos hok
    rwa [e1, e2]
  · have e1 : placeX N c = (0, 0) := if_neg hok
    rw [e1, cellE_no hok]
    have CC := Lib.hid (fun W (hW : Below w.heap.size w W) => count_none Ab An As Ar cb cn cs cr N W (hN.keep hW) hl hok hcr)
    have hB0 := Lib.hid ((Below.refl w.heap.size w).alloc (Nat.le_refl _) (.cells (netCells Ab An As Ar cb cn cs cr N) 29))
    have hsz0 : w.heap.size < (w.alloc (.cells (netCells Ab An As Ar cb cn cs cr N) 29)).heap.size := by simp
    obtain ⟨x0, x1, x2, x3, x4, x5, x6, x7⟩ := boxAt_of (heap_alloc_new w (.cells (netCells Ab An As Ar cb cn cs cr N) 29))
    clear hN hok hcr hl e1
    go_enter Try.func42, Try.ntmps42
    go_wp2_with fail
    generalize w.alloc (.cells (netCells Ab An As Ar cb cn cs cr N) 29) = w0 at *
    refine (CC.out _ hB0.out).mono ?_
    rintro e w1 ⟨rfl, hb1⟩
    have HB1 := Lib.hid (hB0.out.trans (hb1.mono (Nat.le_of_lt hsz0)))
    clear x0 x1 x2 x3 x4 x5 x6 x7 hb1 CC
    go_wp2
    go_ret3
    exact ⟨rfl, HB1.out⟩
open Classical in
/-- The first error of a network and a spur. -/
noncomputable def spurE (N : NetD) (k : Int) : Int := if NetOk N then (if 0 ≤ k ∧ k < N.spurs.length then 0 else 19) else 20
theorem spurE_ok {N : NetD} {k : Int} (h : NetOk N) (hk : 0 ≤ k ∧ k < N.spurs.length) : spurE N k = 0 := by unfold spurE; rw [if_pos h, if_pos hk]
theorem spurE_out {N : NetD} {k : Int} (h : NetOk N) (hk : ¬ (0 ≤ k ∧ k < N.spurs.length)) : spurE N k = 19 := by unfold spurE; rw [if_pos h, if_neg hk]
theorem spurE_no {N : NetD} {k : Int} (h : ¬ NetOk N) : spurE N k = 20 := by unfold spurE; rw [if_neg h]
set_option maxHeartbeats 4000000 in
theorem next_bad (Ab An As Ar : Option Addr) (cb cn cs cr : Nat) (c : Int) (N : NetD) (w : World) (hN : NetAt w Ab An As Ar N) (hl : NetLen N) (hcr : N.robots.length ≤ cr) (hz : cellE N c ≠ 0) :
    Calls Try.prog 24 #[.agg #[.slice Ab N.blocks.length cb, .slice An N.next.length cn, .slice As N.spurs.length cs, .slice Ar N.robots.length cr, Iv N.queue, Iv N.aging, Iv N.detours, Iv N.patience], .int .i64 c] w fun e w' => e = .returned (.tuple #[.slice none 0 0, .int .i64 (cellE N c)]) ∧ Below w.heap.size w w' := by
  have CP := Lib.hid (fun W (hW : Below w.heap.size w W) => placeX_c Ab An As Ar cb cn cs cr N c W (hN.keep hW) hl hcr)
  have hB0 := Lib.hid ((Below.refl w.heap.size w).alloc (Nat.le_refl _) (.cells (netCells Ab An As Ar cb cn cs cr N) 29))
  have hsz0 : w.heap.size < (w.alloc (.cells (netCells Ab An As Ar cb cn cs cr N) 29)).heap.size := by simp
  obtain ⟨x0, x1, x2, x3, x4, x5, x6, x7⟩ := boxAt_of (heap_alloc_new w (.cells (netCells Ab An As Ar cb cn cs cr N) 29))
  have hzb : (cellE N c != 0) = true := by rw [bne_iff_ne]; exact hz
  generalize cellE N c = z at *
  generalize placeX N c = p at *
  obtain ⟨p1, p2⟩ := p
  clear hN hl hcr hz
  go_enter Try.func24, Try.ntmps24
  go_wp2_with fail
  generalize w.alloc (.cells (netCells Ab An As Ar cb cn cs cr N) 29) = w0 at *
  refine (CP.out _ hB0.out).mono ?_
  rintro e w1 ⟨rfl, hb1⟩
  have HB1 := Lib.hid (hB0.out.trans (hb1.mono (Nat.le_of_lt hsz0)))
  clear x0 x1 x2 x3 x4 x5 x6 x7 hb1 CP
  go_wp2
  go_ret2
  exact ⟨rfl, HB1.out⟩
end Go.Proofs.Ytjbhmeeebacnpaa
namespace Go.Proofs.Ytjbhmeeebacnpaa
open Go Go.RowKit Fl

set_option maxRecDepth 100000 in
set_option maxHeartbeats 2000000 in
theorem configuredX_c (q a d p : Int) (w : World) :
    Calls Try.prog 69 #[.agg #[Iv q, Iv a, Iv d, Iv p]] w (Exact (ConfOk q a d p) w) := by
  by_cases h : ConfOk q a d p
  · refine (configured_c q a d p w h).mono ?_
    rintro e w' ⟨rfl, hb⟩
    exact .yes h hb
  · have HN := Lib.hid h
    have hc : q < 1 ∨ (1 ≤ q ∧ 8 < q) ∨ (1 ≤ q ∧ q ≤ 8 ∧ a < 0) ∨ (1 ≤ q ∧ q ≤ 8 ∧ 0 ≤ a ∧ 4 < a) ∨ (1 ≤ q ∧ q ≤ 8 ∧ 0 ≤ a ∧ a ≤ 4 ∧ d < 0) ∨ (1 ≤ q ∧ q ≤ 8 ∧ 0 ≤ a ∧ a ≤ 4 ∧ 0 ≤ d ∧ 3 < d) ∨ (1 ≤ q ∧ q ≤ 8 ∧ 0 ≤ a ∧ a ≤ 4 ∧ 0 ≤ d ∧ d ≤ 3 ∧ p < 1) ∨ (1 ≤ q ∧ q ≤ 8 ∧ 0 ≤ a ∧ a ≤ 4 ∧ 0 ≤ d ∧ d ≤ 3 ∧ 1 ≤ p ∧ 16 < p) := by
      by_cases a1 : 1 ≤ q ∧ q ≤ 8
      · by_cases a2 : 0 ≤ a ∧ a ≤ 4
        · by_cases a3 : 0 ≤ d ∧ d ≤ 3
          · by_cases a4 : 1 ≤ p ∧ p ≤ 16
            · exact absurd ⟨a1, a2, a3, a4⟩ h
            · omega
          · omega
        · omega
      · omega
    have hb0 := Lib.hid ((Below.refl w.heap.size w).alloc (Nat.le_refl _) (.cells #[Iv q, Iv a, Iv d, Iv p] 27))
    clear h
    rcases hc with h | ⟨h1, h⟩ | ⟨h1, h2, h⟩ | ⟨h1, h2, h3, h⟩ | ⟨h1, h2, h3, h4, h⟩ | ⟨h1, h2, h3, h4, h5, h⟩ | ⟨h1, h2, h3, h4, h5, h6, h⟩ | ⟨h1, h2, h3, h4, h5, h6, h7, h⟩
    all_goals
      have hn := Int.not_le.2 h
      have hd := decide_eq_false hn
      clear h
      go_enter Try.func69, Try.ntmps69
      go_wp2
      go_ret
      exact .no HN.out hb0.out
set_option maxRecDepth 100000 in
set_option maxHeartbeats 4000000 in
theorem blocksX_c (Ab An As Ar : Option Addr) (cb cn cs cr : Nat) (N : NetD) (w : World) (hN : NetAt w Ab An As Ar N) (hl : NetLen N) :
    Calls Try.prog 67 #[.agg #[.slice Ab N.blocks.length cb, .slice An N.next.length cn, .slice As N.spurs.length cs, .slice Ar N.robots.length cr, Iv N.queue, Iv N.aging, Iv N.detours, Iv N.patience]] w (Exact (GridOk N) w) := by
  have hB0 : Below w.heap.size w (w.alloc (.cells (netCells Ab An As Ar cb cn cs cr N) 29)) := (Below.refl _ _).alloc (Nat.le_refl _) _
  have HX := Lib.hid (boxAt_of (heap_alloc_new w (.cells (netCells Ab An As Ar cb cn cs cr N) 29)))
  have hsz0 : w.heap.size < (w.alloc (.cells (netCells Ab An As Ar cb cn cs cr N) 29)).heap.size := by simp
  obtain ⟨y0, y1, y2, y3, y4, y5, y6, y7⟩ := boxAt_of (heap_alloc_new w (.cells (netCells Ab An As Ar cb cn cs cr N) 29))
  by_cases hs : (1 ≤ N.blocks.length ∧ N.blocks.length ≤ 24) ∧ N.next.length = N.blocks.length
  · have HB0 := Lib.hid hB0
    have HNx := Lib.hid hN
    have HLx := Lib.hid hl
    obtain ⟨⟨h1, h2⟩, h3⟩ := hs
    have hne : ((N.next.length : Int) != (N.blocks.length : Int)) = false := by rw [h3]; simp
    have HL := Lib.hid h3
    have h1i : ¬ (N.blocks.length : Int) < 1 := by omega
    have h2i : ¬ (24 : Int) < (N.blocks.length : Int) := by omega
    clear hN hl hB0 h3
    go_enter Try.func67, Try.ntmps67
    go_wp2
    generalize w.alloc (.cells (netCells Ab An As Ar cb cn cs cr N) 29) = w0 at *
    clear y0 y1 y2 y3 y4 y5 y6 y7 hne
    go_loopw [3] (fun i wr => ∃ (k : Nat), i = .int .i64 k ∧ k ≤ N.blocks.length ∧ Hid (∀ i (h : i < N.blocks.length) (h' : i < N.next.length), i < k → PlaceFit N.blocks[i] ∧ RowFit N.blocks.length i N.next[i]) ∧ Below w0.heap.size w0 wr) (fun i _ => N.blocks.length - (intOf i).toNat)
    case atStart => exact ⟨0, rfl, Nat.zero_le _, Lib.hid (fun i h h' hj => by omega), Below.refl _ _⟩
    case round =>
      obtain ⟨k, rfl, hk, HF, hb⟩ := hrel
      have hbw : Below w.heap.size w wr := HB0.out.trans (hb.mono (Nat.le_of_lt hsz0))
      obtain ⟨x0, x1, x2, x3, x4, x5, x6, x7⟩ := HX.out.keep hsz0 hb
      clear x2 x3 x4 x5 x6 x7
      by_cases hlt : k < N.blocks.length
      · have hltn : k < N.next.length := by have := HL.out; omega
        have hlti : (k : Int) < (N.blocks.length : Int) := by omega
        obtain ⟨bb, ob, rfl, hbb, hs⟩ := HNx.out.blocks.block hlt
        obtain ⟨c0, c1, c2⟩ := hs.keep hbb hbw
        obtain ⟨bn, on, A1, cc1, rfl, e1, hr⟩ := HNx.out.next.one hltn
        have hbn : bn < w.heap.size := World.block_lt_of_cell? _ _ e1
        have hrl := HLx.out.rows _ (List.getElem_mem hltn)
        have HW := Lib.hid (fun W (hW : Below w0.heap.size w0 W) => (HX.out.keep hsz0 hW))
        have HE1 : Hid (∀ W, Below w.heap.size w W → W.cell? ⟨bn, on + k, none⟩ = some (.slice A1 N.next[k].length cc1) ∧ Holds W A1 (N.next[k].map Iv)) := Lib.hid (fun W hW => ⟨(hW.cell (p := ⟨bn, on + k, none⟩) hbn).trans e1, hr.keep hW⟩)
        have e1a : ∀ o, (wr.alloc o).cell? ⟨bn, on + k, none⟩ = some (.slice A1 N.next[k].length cc1) := fun o => (HE1.out _ (hbw.alloc hbw.size o)).1
        have x1a : ∀ o, (wr.alloc o).cell? ⟨w.heap.size, 1, none⟩ = some (.slice (some ⟨bn, on, none⟩) N.next.length cn) := fun o => (HW.out _ (hb.alloc hb.size o)).c1
        have HBad : Hid (¬ (PlaceFit N.blocks[k] ∧ RowFit N.blocks.length k N.next[k]) → ¬ GridOk N) := Lib.hid (fun h hg => h ⟨hg.places _ (List.getElem_mem hlt), hg.rows k hltn⟩)
        have HGood : Hid (PlaceFit N.blocks[k] ∧ RowFit N.blocks.length k N.next[k] → ∀ i (h : i < N.blocks.length) (h' : i < N.next.length), i < k + 1 → PlaceFit N.blocks[i] ∧ RowFit N.blocks.length i N.next[i]) := Lib.hid (fun hf i h h' hj => by
          rcases Nat.lt_succ_iff_lt_or_eq.1 hj with h2 | rfl
          · exact HF.out i h h' h2
          · exact hf)
        clear hs hr e1 HF
        generalize N.next[k] = r at *
        generalize N.blocks[k] = x at *
        obtain ⟨nm, xx, yy⟩ := x
        simp only at c0 c1 c2
        have hbwN := Lib.hid hbw
        have HBa : Hid (∀ ob, Below w.heap.size w (wr.alloc ob)) := Lib.hid (fun ob => hbw.alloc hbw.size ob)
        by_cases hp : ((-9999 ≤ xx ∧ xx ≤ 9999) ∧ (-9999 ≤ yy ∧ yy ≤ 9999)) ∧ r.length ≤ 4
        · obtain ⟨⟨⟨p1, p2⟩, p3, p4⟩, hr4⟩ := hp
          have HPl : Hid (PlaceFit ⟨nm, xx, yy⟩) := Lib.hid ⟨⟨p1, p2⟩, ⟨p3, p4⟩⟩
          go_wp2
          have hb2 := hb.alloc hb.size (.cells #[Sv nm, Iv xx, Iv yy] 77)
          have hbw2 := hbw.alloc hbw.size (.cells #[Sv nm, Iv xx, Iv yy] 77)
          clear e1a x1a c0 c1 c2 hb hbw x0 x1 HBa hbwN
          generalize wr.alloc (.cells #[Sv nm, Iv xx, Iv yy] 77) = wx at *
          go_loop [5] (fun i => ∃ (j : Nat), i = .int .i64 j ∧ j ≤ r.length ∧ Hid (PreRow N.blocks.length k r j)) (fun i => r.length - (intOf i).toNat)
          case atStart => exact ⟨0, rfl, Nat.zero_le _, Lib.hid (PreRow.zero _ _ _)⟩
          case round =>
            obtain ⟨j, rfl, hj, HPr⟩ := hrel
            obtain ⟨x0, x1, x2, x3, x4, x5, x6, x7⟩ := HW.out _ hb2
            clear x2 x3 x4 x5 x6 x7
            obtain ⟨e1, hr⟩ := HE1.out _ hbw2
            by_cases hjt : j < r.length
            · obtain ⟨br, or_, rfl, e2⟩ := hr.iv hjt
              have hjti : (j : Int) < (r.length : Int) := by omega
              by_cases hok : (0 ≤ r[j] ∧ r[j] < (N.blocks.length : Int) ∧ r[j] ≠ (k : Int)) ∧ ∀ (h0 : 0 < j), r[j - 1]'(by omega) < r[j]
              · obtain ⟨⟨q0, q1, q2⟩, q3⟩ := hok
                have HPr2 := Lib.hid (HPr.out.step hjt ⟨q0, q1, q2⟩ q3)
                have q4 : (r[j] == (k : Int)) = false := by simpa using q2
                clear q2 HPr
                by_cases hj0 : j = 0
                · subst hj0
                  rw [Nat.add_zero] at e2
                  clear hr q3
                  generalize r[0] = x at *
                  go_wp2
                  go_round
                  case rel => exact ⟨1, by go_num, by omega, HPr2⟩
                  case measure => simp [intOf]; omega
                · have hjp : j - 1 < r.length := by omega
                  obtain ⟨b3, o3, hA3, e3⟩ := hr.iv hjp
                  injection hA3 with h
                  injection h with g1 g2
                  subst g1 g2
                  have hpos : 0 < j := by omega
                  have hlo := q3 hpos
                  have hcast : (j : Int) - 1 = ((j - 1 : Nat) : Int) := by omega
                  have hd4 : decide (r[j] ≤ r[j - 1]) = false := by rw [decide_eq_false_iff_not]; omega
                  clear hr hlo q3
                  generalize r[j] = x at *
                  generalize r[j - 1] = y at *
                  go_wp2
                  go_round
                  case rel => exact ⟨j + 1, by go_num, by omega, HPr2⟩
                  case measure => simp [intOf]; omega
              · have HB : Hid (¬ GridOk N) := Lib.hid (HBad.out (fun h => hok (h.2.step hjt)))
                have hcs : r[j] < 0 ∨ (0 ≤ r[j] ∧ (N.blocks.length : Int) ≤ r[j]) ∨ (0 ≤ r[j] ∧ ¬ (N.blocks.length : Int) ≤ r[j] ∧ r[j] = (k : Int)) ∨ ((0 ≤ r[j] ∧ ¬ (N.blocks.length : Int) ≤ r[j] ∧ r[j] ≠ (k : Int)) ∧ ∃ h0 : 0 < j, r[j] ≤ r[j - 1]'(by omega)) := by
                  by_cases a1 : 0 ≤ r[j]
                  · by_cases a2 : (N.blocks.length : Int) ≤ r[j]
                    · omega
                    · by_cases a3 : r[j] = (k : Int)
                      · exact .inr (.inr (.inl ⟨a1, a2, a3⟩))
                      · refine .inr (.inr (.inr ⟨⟨a1, a2, a3⟩, ?_⟩))
                        by_cases a4 : 0 < j
                        · refine ⟨a4, ?_⟩
                          by_cases a5 : r[j] ≤ r[j - 1]'(by omega)
                          · exact a5
                          · exact absurd ⟨⟨a1, by omega, a3⟩, fun _ => by omega⟩ hok
                        · exact absurd ⟨⟨a1, by omega, a3⟩, fun h => absurd h a4⟩ hok
                  · omega
                clear hok HPr HBad HGood
                rcases hcs with q | ⟨q0, q⟩ | ⟨q0, q1, q⟩ | ⟨⟨q0, q1, q2⟩, hpos, q⟩
                · clear hr
                  generalize r[j] = x at *
                  go_wp2
                  go_ret
                  exact .no HB.out hbw2
                · clear hr
                  generalize r[j] = x at *
                  have q0' : ¬ x < 0 := by omega
                  go_wp2
                  go_ret
                  exact .no HB.out hbw2
                · clear hr
                  have q2 : (r[j] == (k : Int)) = true := by simpa using q
                  have q0' : ¬ r[j] < 0 := by omega
                  clear q
                  generalize r[j] = x at *
                  go_wp2
                  go_ret
                  exact .no HB.out hbw2
                · have hjp : j - 1 < r.length := by omega
                  obtain ⟨b3, o3, hA3, e3⟩ := hr.iv hjp
                  injection hA3 with h
                  injection h with g1 g2
                  subst g1 g2
                  have hcast : (j : Int) - 1 = ((j - 1 : Nat) : Int) := by omega
                  have hd4 : decide (r[j] ≤ r[j - 1]) = true := by rw [decide_eq_true_iff]; exact q
                  have q4 : (r[j] == (k : Int)) = false := by simpa using q2
                  have hposi : (0 : Int) < (j : Int) := by omega
                  clear hr q q2
                  generalize r[j] = x at *
                  generalize r[j - 1] = y at *
                  go_wp2
                  go_ret
                  exact .no HB.out hbw2
            · obtain rfl : j = r.length := by omega
              have HF2 := Lib.hid (HGood.out ⟨HPl.out, HPr.out.all hr4⟩)
              clear hr HGood HBad HPr HPl
              go_wp2
              go_roundw
              case rel => exact ⟨k + 1, by go_num, by omega, HF2, hb2⟩
              case measure => simp [intOf]; omega
        · have HB : Hid (¬ GridOk N) := Lib.hid (HBad.out (fun h => hp ⟨⟨h.1.x, h.1.y⟩, h.2.few⟩))
          have hcs : xx < -9999 ∨ (¬ xx < -9999 ∧ 9999 < xx) ∨ (¬ xx < -9999 ∧ ¬ 9999 < xx ∧ yy < -9999) ∨ (¬ xx < -9999 ∧ ¬ 9999 < xx ∧ ¬ yy < -9999 ∧ 9999 < yy) ∨ (¬ xx < -9999 ∧ ¬ 9999 < xx ∧ ¬ yy < -9999 ∧ ¬ 9999 < yy ∧ (4 : Int) < (r.length : Int)) := by omega
          clear hp HBad HGood hb hbw
          rcases hcs with h | ⟨p1, h⟩ | ⟨p1, p2, h⟩ | ⟨p1, p2, p3, h⟩ | ⟨p1, p2, p3, p4, h⟩
          all_goals
            go_wp2
            go_ret
            exact .no HB.out (HBa.out _)
      · have HG : Hid (GridOk N) := Lib.hid (GridOk.of ⟨h1, h2⟩ HL.out (fun i h h' => HF.out i h h' (by omega)))
        have hkn : ¬ (k : Int) < (N.blocks.length : Int) := by omega
        go_wp2
        go_ret
        exact .yes HG.out hbw
  · have HNo2 : Hid (¬ GridOk N) := Lib.hid (fun h => hs ⟨h.size, h.lanes⟩)
    have HB0 := Lib.hid hB0
    have hc : N.blocks.length < 1 ∨ (¬ N.blocks.length < 1 ∧ 24 < N.blocks.length) ∨ (¬ N.blocks.length < 1 ∧ ¬ 24 < N.blocks.length ∧ N.next.length ≠ N.blocks.length) := by omega
    clear hs hB0
    rcases hc with h | ⟨h1, h⟩ | ⟨h1, h2, h⟩
    · have hi : (N.blocks.length : Int) < 1 := by omega
      go_enter Try.func67, Try.ntmps67
      go_wp2
      go_ret
      exact .no HNo2.out HB0.out
    · have hi : ¬ (N.blocks.length : Int) < 1 := by omega
      have hi2 : (24 : Int) < (N.blocks.length : Int) := by omega
      go_enter Try.func67, Try.ntmps67
      go_wp2
      go_ret
      exact .no HNo2.out HB0.out
    · have hi : ¬ (N.blocks.length : Int) < 1 := by omega
      have hi2 : ¬ (24 : Int) < (N.blocks.length : Int) := by omega
      have hne : ((N.next.length : Int) != (N.blocks.length : Int)) = true := by rw [bne_iff_ne]; omega
      go_enter Try.func67, Try.ntmps67
      go_wp2
      go_ret
      exact .no HNo2.out HB0.out
end Go.Proofs.Ytjbhmeeebacnpaa
