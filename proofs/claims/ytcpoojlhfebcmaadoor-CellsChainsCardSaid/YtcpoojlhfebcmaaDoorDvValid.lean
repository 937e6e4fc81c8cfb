/- Contract of netmap.Valid, for valid networks. -/
import Derived.Test.YtcpoojlhfebcmaaDoorDvSmall
import Derived.Test.YtcpoojlhfebcmaaDoorDvMap
import Derived.Test.YtcpoojlhfebcmaaDoorSlIdx
import Derived.Deep.RegionHeld3
namespace Go.Proofs.YtcpoojlhfebcmaaDoor
open Go Go.RowKit Fl

theorem depotTest_c (s : SpurD) (w : World) : Calls Tryd.prog 78 #[.agg #[Sv s.name, Bo s.depot, Iv s.inn, Iv s.out, Iv s.slots, Iv s.base]] w fun e w' => e = .returned (.bool s.depot) ∧ Below w.heap.size w w' := by
  obtain ⟨nm, dp, si, so, sw, sb⟩ := s
  simp only
  have hB0 := Lib.hid ((Below.refl w.heap.size w).alloc (Nat.le_refl _) (.cells #[Sv nm, Bo dp, Iv si, Iv so, Iv sw, Iv sb] 56))
  go_enter Tryd.func78, Tryd.ntmps78
  go_wp2
  go_ret
  exact ⟨rfl, hB0.out⟩
set_option maxRecDepth 100000 in
set_option maxHeartbeats 4000000 in
theorem idxSpur_c (A : Option Addr) (c : Nat) (l : List SpurD) (w : World) (hl : Holds w A (spurCells l)) (h6 : l.length ≤ 1000) (hd : ∃ s ∈ l, s.depot = true) :
    Calls Tryd.prog 87 #[.slice A l.length c, .func (.func 78) #[] #[]] w fun e w' => (∃ k : Int, e = .returned (.int .i64 k) ∧ 0 ≤ k) ∧ Below w.heap.size w w' := by
  have HL := Lib.hid hl
  have HD := Lib.hid hd
  have HC := Lib.hid (fun s W => depotTest_c s W)
  clear hl hd
  go_enter Tryd.func87, Tryd.ntmps87
  go_wp2
  go_loopw [8] (fun iv wr => ∃ (i : Nat), iv = .int .i64 i ∧ i ≤ l.length ∧ Hid (∀ j (h : j < l.length), j < i → l[j].depot = false) ∧ Hid (Below w.heap.size w wr)) (fun iv _ => l.length - (intOf iv).toNat)
  case atStart => exact ⟨0, rfl, Nat.zero_le _, Lib.hid (fun j _ h => by omega), Lib.hid (Below.refl _ _)⟩
  case round =>
    obtain ⟨i, rfl, hij, HP, HB⟩ := hrel
    by_cases hir : i < l.length
    · obtain ⟨b, o, rfl, hbl, hs⟩ := HL.out.spur hir
      obtain ⟨c0, c1, c2, c3, c4, c5⟩ := hs.keep hbl HB.out
      have CN := Lib.hid (HC.out l[i] wr)
      have HP2 : Hid (l[i].depot = false → ∀ j (h : j < l.length), j < i + 1 → l[j].depot = false) := Lib.hid (fun h j hj h2 => by
        rcases Nat.lt_succ_iff_lt_or_eq.1 h2 with h3 | rfl
        · exact HP.out j hj h3
        · exact h)
      have HBz : Hid (∀ W, Below wr.heap.size wr W → Below w.heap.size w W) := Lib.hid (fun W hW => HB.out.trans (hW.mono HB.out.size))
      clear hs HP HB
      generalize l[i] = s at *
      obtain ⟨nm, dp, si, so, sw, sb⟩ := s
      simp only at c0 c1 c2 c3 c4 c5 CN HP2
      rcases dp with _ | _
      · go_wp2_with (go_at_call 78; refine CN.out.mono ?_; rintro e w2 ⟨rfl, hb2⟩)
        have HB2 := Lib.hid (HBz.out _ hb2)
        go_roundw
        case rel => exact ⟨i + 1, by go_num, by omega, Lib.hid (HP2.out (by first | rfl | trivial)), HB2⟩
        case measure => simp [intOf]; omega
      · go_wp2_with (go_at_call 78; refine CN.out.mono ?_; rintro e w2 ⟨rfl, hb2⟩)
        have HB2 := Lib.hid (HBz.out _ hb2)
        go_ret
        exact ⟨⟨_, rfl, by omega⟩, HB2.out⟩
    · exfalso
      obtain ⟨s, hs, hd⟩ := HD.out
      obtain ⟨j, hj, rfl⟩ := List.mem_iff_getElem.1 hs
      rw [HP.out j hj (by omega)] at hd
      cases hd
set_option maxHeartbeats 2000000 in
theorem hasDepot_c (A : Option Addr) (c : Nat) (l : List SpurD) (w : World) (hl : Holds w A (spurCells l)) (h6 : l.length ≤ 1000) (hd : ∃ s ∈ l, s.depot = true) :
    Calls Tryd.prog 69 #[.slice A l.length c] w fun e w' => e = .returned (.bool true) ∧ Below w.heap.size w w' := by
  have CI := Lib.hid (idxSpur_c A c l w hl h6 hd)
  have CC : Hid (Calls Tryd.prog 77 #[.slice A l.length c, .func (.func 78) #[] #[]] w fun e w' => e = .returned (.bool true) ∧ Below w.heap.size w w') := Lib.hid (by
    go_enter Tryd.func77, Tryd.ntmps77
    go_wp2_with fail
    refine CI.out.mono ?_
    rintro e w1 ⟨⟨k, rfl, hk⟩, hb1⟩
    have HB := Lib.hid hb1
    clear hb1
    go_wp2
    go_ret
    exact ⟨rfl, HB.out⟩)
  clear hl hd CI
  go_enter Tryd.func69, Tryd.ntmps69
  go_wp2_with fail
  refine CC.out.mono ?_
  rintro e w1 ⟨rfl, hb1⟩
  have HB := Lib.hid hb1
  clear hb1
  go_wp2
  go_ret
  exact ⟨rfl, HB.out⟩
set_option maxRecDepth 100000 in
set_option maxHeartbeats 8000000 in
theorem devBlocks_c (Ab An As Ar : Option Addr) (cb cn cs cr : Nat) (N : NetD) (w : World) (hN : NetAt w Ab An As Ar N) (hok : NetOk N) :
    Calls Tryd.prog 50 #[.agg #[.slice Ab N.blocks.length cb, .slice An N.next.length cn, .slice As N.spurs.length cs, .slice Ar N.robots.length cr, Iv N.queue, Iv N.aging, Iv N.detours, Iv N.patience]] w fun e w' => e = .returned (.bool true) ∧ Below w.heap.size w w' := by
  have HN := Lib.hid hN
  have HO := Lib.hid hok
  have h1 := hok.some
  have h2 := hok.few
  have HL := Lib.hid hok.lanes
  have hne : ((N.next.length : Int) != (N.blocks.length : Int)) = false := by rw [hok.lanes]; simp
  have C1 := Lib.hid (fun W => between_t (N.blocks.length : Int) 1 24 W (by omega) (by omega))
  have hB0 := Lib.hid ((Below.refl w.heap.size w).alloc (Nat.le_refl _) (.cells (netCells Ab An As Ar cb cn cs cr N) 29))
  have HX := Lib.hid (boxAt_of (heap_alloc_new w (.cells (netCells Ab An As Ar cb cn cs cr N) 29)))
  have hsz0 : w.heap.size < (w.alloc (.cells (netCells Ab An As Ar cb cn cs cr N) 29)).heap.size := by simp
  obtain ⟨x0, x1, _, _, _, _, _, _⟩ := boxAt_of (heap_alloc_new w (.cells (netCells Ab An As Ar cb cn cs cr N) 29))
  clear hN hok
  go_enter Tryd.func50, Tryd.ntmps50
  go_wp2_with fail
  generalize w.alloc (.cells (netCells Ab An As Ar cb cn cs cr N) 29) = w0 at *
  refine (C1.out _).mono ?_
  rintro e w1 ⟨rfl, rfl⟩
  go_wp2
  go_loopw [22] (fun i wr => ∃ (k : Nat), i = .int .i64 k ∧ k ≤ N.blocks.length ∧ Hid (Below w0.heap.size w0 wr)) (fun i _ => N.blocks.length - (intOf i).toNat)
  case atStart => exact ⟨0, rfl, Nat.zero_le _, Lib.hid (Below.refl _ _)⟩
  case round =>
    clear x0 x1
    obtain ⟨k, rfl, hk, HB⟩ := hrel
    by_cases hlt : k < N.blocks.length
    · have hltn : k < N.next.length := by have := HL.out; omega
      obtain ⟨x0, x1, _, _, _, _, _, _⟩ := HX.out.keep hsz0 HB.out
      have hbw : Below w.heap.size w wr := hB0.out.trans (HB.out.mono (Nat.le_of_lt hsz0))
      obtain ⟨bb, ob, rfl, hbb, hs⟩ := HN.out.blocks.block hlt
      obtain ⟨c0, c1, c2⟩ := hs.keep hbb hbw
      obtain ⟨p1, p2, p3, p4⟩ := HO.out.places _ (List.getElem_mem hlt)
      have hnm : name N.blocks[k].name = true := HO.out.named _ (List.mem_append_left _ (List.mem_map.2 ⟨_, List.getElem_mem hlt, rfl⟩))
      obtain ⟨bn, on, A1, cc1, rfl, e1, hr⟩ := HN.out.next.one hltn
      have hbn : bn < w.heap.size := World.block_lt_of_cell? _ _ e1
      have ho4 := HO.out.outs _ (List.getElem_mem hltn)
      have CV : Hid (∀ W, Below w.heap.size w W → Calls Tryd.prog 68 #[.slice A1 N.next[k].length cc1, .int .i64 k, .int .i64 (N.blocks.length : Int)] W fun e w' => e = .returned (.bool true) ∧ W = w') := Lib.hid (fun W hW => validNext_c A1 cc1 k N.blocks.length N.next[k] W (hr.keep hW) ho4 (validG_sorted' HO.out.graph hltn) (by have := validG_row HO.out.graph hltn; rw [HL.out] at this; exact this))
      have HW : Hid (∀ W, Below w0.heap.size w0 W → W.cell? ⟨w.heap.size, 0, none⟩ = some (.slice (some ⟨bb, ob, none⟩) N.blocks.length cb) ∧ W.cell? ⟨w.heap.size, 1, none⟩ = some (.slice (some ⟨bn, on, none⟩) N.next.length cn) ∧ W.cell? ⟨bn, on + k, none⟩ = some (.slice A1 N.next[k].length cc1)) := Lib.hid (fun W hW => ⟨(HX.out.keep hsz0 hW).c0, (HX.out.keep hsz0 hW).c1, ((hB0.out.trans (hW.mono (Nat.le_of_lt hsz0))).cell (p := ⟨bn, on + k, none⟩) hbn).trans e1⟩)
      have HBa : Hid (∀ ob, Below w0.heap.size w0 ((wr.alloc ob).drew)) := Lib.hid (fun ob => (HB.out.alloc HB.out.size ob).drew)
      clear hs hr e1 HB hbw
      generalize N.next[k] = r at *
      generalize N.blocks[k] = x at *
      obtain ⟨nm, xx, yy⟩ := x
      simp only at c0 c1 c2 p1 p2 p3 p4 hnm
      have CN := Lib.hid (fun W => Name_c nm W (by have := name_short hnm; unfold maxLen; omega))
      rw [hnm] at CN
      have CX := Lib.hid (fun W => between_t xx (-9999) 9999 W p1 p2)
      have CY := Lib.hid (fun W => between_t yy (-9999) 9999 W p3 p4)
      clear hnm p1 p2 p3 p4
      go_wp2_with fail
      refine (CN.out _).mono ?_
      rintro e w2 ⟨rfl, rfl⟩
      go_wp2_with fail
      refine (CX.out _).mono ?_
      rintro e w2 ⟨rfl, rfl⟩
      go_wp2_with fail
      refine (CY.out _).mono ?_
      rintro e w2 ⟨rfl, rfl⟩
      go_wp2_with fail
      go_region_held3 (fun W => W.cell? ⟨w.heap.size, 0, none⟩ = some (.slice (some ⟨bb, ob, none⟩) N.blocks.length cb) ∧ W.cell? ⟨w.heap.size, 1, none⟩ = some (.slice (some ⟨bn, on, none⟩) N.next.length cn) ∧ W.cell? ⟨bn, on + k, none⟩ = some (.slice A1 r.length cc1)) (first | exact HW.out _ (HBa.out _)) (first | (go_at_call 68; refine (CV.out _ (hB0.out.trans ((HBa.out _).mono (Nat.le_of_lt hsz0)))).mono ?_; rintro e w3 ⟨rfl, rfl⟩))
      go_wp2
      go_roundw
      case rel => exact ⟨k + 1, by go_num, by omega, Lib.hid (HBa.out _)⟩
      case measure => simp [intOf]; omega
    · obtain rfl : k = N.blocks.length := by omega
      go_wp2
      go_ret
      exact ⟨rfl, hB0.out.trans (HB.out.mono (Nat.le_of_lt hsz0))⟩
set_option maxRecDepth 100000 in
set_option maxHeartbeats 8000000 in
theorem devSpurs_c (Ab An As Ar : Option Addr) (cb cn cs cr : Nat) (N : NetD) (w : World) (hN : NetAt w Ab An As Ar N) (hok : NetOk N) :
    Calls Tryd.prog 51 #[.agg #[.slice Ab N.blocks.length cb, .slice An N.next.length cn, .slice As N.spurs.length cs, .slice Ar N.robots.length cr, Iv N.queue, Iv N.aging, Iv N.detours, Iv N.patience]] w fun e w' => e = .returned (.bool true) ∧ Below w.heap.size w w' := by
  have HS := Lib.hid hN.spurs
  have HO := Lib.hid hok
  have h1 := hok.some
  have h2 := hok.few
  have h6 := hok.spurs6
  have hB0 := Lib.hid ((Below.refl w.heap.size w).alloc (Nat.le_refl _) (.cells (netCells Ab An As Ar cb cn cs cr N) 29))
  have CD := Lib.hid (fun W (hW : Below w.heap.size w W) => hasDepot_c As cs N.spurs W (hN.spurs.keep hW) (by omega) hok.depot)
  have HX := Lib.hid (boxAt_of (heap_alloc_new w (.cells (netCells Ab An As Ar cb cn cs cr N) 29)))
  have hsz0 : w.heap.size < (w.alloc (.cells (netCells Ab An As Ar cb cn cs cr N) 29)).heap.size := by simp
  obtain ⟨x0, _, x2, _, _, _, _, _⟩ := boxAt_of (heap_alloc_new w (.cells (netCells Ab An As Ar cb cn cs cr N) 29))
  clear hN hok
  go_enter Tryd.func51, Tryd.ntmps51
  go_wp2_with fail
  generalize w.alloc (.cells (netCells Ab An As Ar cb cn cs cr N) 29) = w0 at *
  refine (CD.out _ hB0.out).mono ?_
  rintro e w1 ⟨rfl, hb1⟩
  have HB1 : Hid (Below w0.heap.size w0 w1) := Lib.hid hb1
  clear x0 x2 hb1 CD
  obtain ⟨x0, _, x2, _, _, _, _, _⟩ := HX.out.keep hsz0 HB1.out
  have hlw : IntKind.i64.wrap ((N.blocks.length : Int) - 1) = (N.blocks.length : Int) - 1 := IntWalk.i64_in _ (by omega)
  go_wp2
  go_loopw [4, 27] (fun z i wr => ∃ (k : Nat) (zz : Int), i = .int .i64 k ∧ z = .int .i64 zz ∧ k ≤ N.spurs.length ∧ Hid (zz = N.blocks.length + slotsK N.spurs k) ∧ 0 ≤ zz ∧ zz ≤ 24 + 4 * k ∧ Hid (Below w0.heap.size w0 wr)) (fun _ i _ => N.spurs.length - (intOf i).toNat)
  case atStart => exact ⟨0, N.blocks.length, rfl, rfl, Nat.zero_le _, Lib.hid (by simp [slotsK]), by omega, by omega, HB1⟩
  case round =>
    clear x0 x2
    obtain ⟨k, zz, rfl, rfl, hk, HZ, hz0, hz1, HB⟩ := hrel
    by_cases hlt : k < N.spurs.length
    · have hbw : Below w.heap.size w wr := hB0.out.trans (HB.out.mono (Nat.le_of_lt hsz0))
      obtain ⟨bb, ob, rfl, hbb, hs⟩ := HS.out.spur hlt
      obtain ⟨c0, c1, c2, c3, c4, c5⟩ := hs.keep hbb hbw
      have hso := HO.out.spurOk _ (List.getElem_mem hlt)
      obtain ⟨⟨i1, i2⟩, ⟨o1, o2⟩, ⟨s1, s2⟩⟩ := hso
      have hnm : name N.spurs[k].name = true := HO.out.named _ (List.mem_append_right _ (List.mem_map.2 ⟨_, List.getElem_mem hlt, rfl⟩))
      have hbs := HO.out.bases k hlt
      rw [← HZ.out] at hbs
      have HZ2 := Lib.hid (slotsK_succ hlt)
      have HBa : Hid (∀ ob, Below w0.heap.size w0 (wr.alloc ob)) := Lib.hid (fun ob => HB.out.alloc HB.out.size ob)
      clear hs HB hbw
      generalize N.spurs[k] = s at *
      obtain ⟨nm, dp, si, so, sw, sb⟩ := s
      simp only at c0 c1 c2 c3 c4 c5 i1 i2 o1 o2 s1 s2 hnm hbs HZ2
      subst hbs
      have HZ3 : Hid (sb + sw = N.blocks.length + slotsK N.spurs (k + 1)) := Lib.hid (by rw [HZ2.out, HZ.out]; omega)
      have CN := Lib.hid (fun W => Name_c nm W (by have := name_short hnm; unfold maxLen; omega))
      rw [hnm] at CN
      have CI := Lib.hid (fun W => between_t si 0 ((N.blocks.length : Int) - 1) W i1 (by omega))
      have CO := Lib.hid (fun W => between_t so 0 ((N.blocks.length : Int) - 1) W o1 (by omega))
      have CW := Lib.hid (fun W => between_t sw 1 4 W s1 s2)
      have hsw : IntKind.i64.wrap (sb + sw) = sb + sw := IntWalk.i64_in _ (by omega)
      clear hnm i1 i2 o1 o2 HZ HZ2
      go_wp2_with fail
      refine (CN.out _).mono ?_
      rintro e w2 ⟨rfl, rfl⟩
      go_wp2_with fail
      refine (CI.out _).mono ?_
      rintro e w2 ⟨rfl, rfl⟩
      go_wp2_with fail
      refine (CO.out _).mono ?_
      rintro e w2 ⟨rfl, rfl⟩
      go_wp2_with fail
      refine (CW.out _).mono ?_
      rintro e w2 ⟨rfl, rfl⟩
      go_wp2
      go_roundw
      case rel => exact ⟨k + 1, sb + sw, by go_num, rfl, by omega, HZ3, by omega, by omega, Lib.hid (HBa.out _)⟩
      case measure => simp [intOf]; omega
    · obtain rfl : k = N.spurs.length := by omega
      go_wp2
      go_ret
      exact ⟨rfl, hB0.out.trans (HB.out.mono (Nat.le_of_lt hsz0))⟩
theorem cont_q (A : Option Addr) (c i : Nat) (l : List Int) (x : Int) (w : World) (hh : Holds w A (l.map Iv)) (hi : i ≤ l.length) (h24 : l.length ≤ 24) :
    Calls Tryd.prog 38 #[.slice A i c, .int .i64 x] w fun e w' => e = .returned (.bool (decide (x ∈ l.take i))) ∧ w' = w := by
  have e : (l.take i).length = i := by rw [List.length_take]; omega
  have h2 : Holds w A ((l.take i).map Iv) := by
    rcases hh with h | ⟨b, o, hA, hb, hc⟩
    · left; have : l = [] := by simpa using h
      subst this; simp
    · right
      refine ⟨b, o, hA, hb, fun j hj => ?_⟩
      rw [hc j (by simp at hj ⊢; omega)]
      simp
  have h3 := contains_c A c (l.take i) x w h2 (by omega)
  rw [e] at h3
  exact h3
set_option maxRecDepth 100000 in
set_option maxHeartbeats 8000000 in
theorem devRobots_c (Ab An As Ar : Option Addr) (cb cn cs cr : Nat) (N : NetD) (w : World) (hN : NetAt w Ab An As Ar N) (hok : NetOk N) (hcr : N.robots.length ≤ cr) :
    Calls Tryd.prog 53 #[.agg #[.slice Ab N.blocks.length cb, .slice An N.next.length cn, .slice As N.spurs.length cs, .slice Ar N.robots.length cr, Iv N.queue, Iv N.aging, Iv N.detours, Iv N.patience]] w fun e w' => e = .returned (.bool true) ∧ Below w.heap.size w w' := by
  have HR := Lib.hid hN.robots
  have HO := Lib.hid hok
  have h8 := hok.robots8
  have hB0 := Lib.hid ((Below.refl w.heap.size w).alloc (Nat.le_refl _) (.cells (netCells Ab An As Ar cb cn cs cr N) 29))
  have hbs : ∀ s ∈ N.spurs, (0 ≤ s.slots ∧ s.slots ≤ 4) ∧ 0 ≤ s.base ∧ s.base ≤ 100 := fun s hs => by
    obtain ⟨k, hk, rfl⟩ := List.mem_iff_getElem.1 hs
    have h1 := (hok.spurOk _ hs).slots
    have h2 := hok.bases k hk
    have h3 := slotsK_bounds (l := N.spurs) (fun s hs => by have := (hok.spurOk s hs).slots; omega) k (by omega)
    have h4 := hok.few
    have h5 := hok.spurs6
    omega
  have CD := Lib.hid (fun W x (hW : Below w.heap.size w W) (hx : inDepot N.spurs x) => depotOf_c Ab An As Ar cb cn cs cr N x W (hN.keep hW) hok.spurs6 hbs hx)
  have HX := Lib.hid (boxAt_of (heap_alloc_new w (.cells (netCells Ab An As Ar cb cn cs cr N) 29)))
  have hsz0 : w.heap.size < (w.alloc (.cells (netCells Ab An As Ar cb cn cs cr N) 29)).heap.size := by simp
  obtain ⟨_, _, _, x3, _, _, _, _⟩ := boxAt_of (heap_alloc_new w (.cells (netCells Ab An As Ar cb cn cs cr N) 29))
  clear hN hok hbs
  go_enter Tryd.func53, Tryd.ntmps53
  go_wp2
  generalize w.alloc (.cells (netCells Ab An As Ar cb cn cs cr N) 29) = w0 at *
  go_loopw [15] (fun i wr => ∃ (k : Nat), i = .int .i64 k ∧ k ≤ N.robots.length ∧ Hid (Below w0.heap.size w0 wr)) (fun i _ => N.robots.length - (intOf i).toNat)
  case atStart => exact ⟨0, rfl, Nat.zero_le _, Lib.hid (Below.refl _ _)⟩
  case round =>
    clear x3
    obtain ⟨k, rfl, hk, HB⟩ := hrel
    by_cases hlt : k < N.robots.length
    · have hbw : Below w.heap.size w wr := hB0.out.trans (HB.out.mono (Nat.le_of_lt hsz0))
      obtain ⟨x0, x1, x2, x3, x4, x5, x6, x7⟩ := HX.out.keep hsz0 HB.out
      obtain ⟨b, o, hA, e1⟩ := (HR.out.keep hbw).iv' hlt
      have CD2 := Lib.hid (CD.out wr N.robots[k] hbw (HO.out.homes _ (List.getElem_mem hlt)))
      have hnot : ¬ N.robots[k] ∈ N.robots.take k := fun hm => by
        obtain ⟨j, hj, e⟩ := List.mem_iff_getElem.1 hm
        rw [List.getElem_take] at e
        rw [List.length_take] at hj
        exact List.pairwise_iff_getElem.1 HO.out.once j k (by omega) hlt (by omega) e
      have CQ := Lib.hid (fun W (hW : Below w.heap.size w W) => cont_q Ar cr k N.robots N.robots[k] W (HR.out.keep hW) hk (by omega))
      rw [decide_eq_false hnot] at CQ
      have HXW := Lib.hid (fun W (hW : Below wr.heap.size wr W) => (HX.out.keep hsz0 (HB.out.trans (hW.mono HB.out.size))).c3)
      have HBW := Lib.hid (fun W (hW : Below wr.heap.size wr W) => HB.out.trans (hW.mono HB.out.size))
      subst hA
      clear hnot hbw HB CD
      generalize N.robots[k] = x at *
      go_wp2_with fail
      refine CD2.out.mono ?_
      rintro e w2 ⟨⟨j, hj, _, _, _, rfl⟩, hb2⟩
      have x3b := HXW.out _ hb2
      have HB2 := Lib.hid (HBW.out _ hb2)
      have hbw2 : Below w.heap.size w w2 := hB0.out.trans (HB2.out.mono (Nat.le_of_lt hsz0))
      have CQ2 := Lib.hid (CQ.out w2 hbw2)
      have hkc : k ≤ cr := by omega
      clear hb2 hbw2 CQ CD2 HXW HBW x0 x1 x2 x3 x4 x5 x6 x7 e1
      generalize N.spurs[j] = s at *
      go_wp2_with fail
      refine CQ2.out.mono ?_
      rintro e w3 ⟨rfl, rfl⟩
      go_wp2
      go_roundw
      case rel => exact ⟨k + 1, by go_num, by omega, HB2⟩
      case measure => simp [intOf]; omega
    · obtain rfl : k = N.robots.length := by omega
      go_wp2
      go_ret
      exact ⟨rfl, hB0.out.trans (HB.out.mono (Nat.le_of_lt hsz0))⟩
set_option maxRecDepth 100000 in
set_option maxHeartbeats 8000000 in
theorem netValid_c (Ab An As Ar : Option Addr) (cb cn cs cr : Nat) (N : NetD) (w : World) (hN : NetAt w Ab An As Ar N) (hok : NetOk N) (hcr : N.robots.length ≤ cr) :
    Calls Tryd.prog 32 #[.agg #[.slice Ab N.blocks.length cb, .slice An N.next.length cn, .slice As N.spurs.length cs, .slice Ar N.robots.length cr, Iv N.queue, Iv N.aging, Iv N.detours, Iv N.patience]] w fun e w' => e = .returned (.bool true) ∧ Below w.heap.size w w' := by
  have C1 := Lib.hid (fun W (hW : Below w.heap.size w W) => devBlocks_c Ab An As Ar cb cn cs cr N W (hN.keep hW) hok)
  have C2 := Lib.hid (fun W (hW : Below w.heap.size w W) => devSpurs_c Ab An As Ar cb cn cs cr N W (hN.keep hW) hok)
  have C3 := Lib.hid (fun W (hW : Below w.heap.size w W) => distinct_c Ab An As Ar cb cn cs cr N W (hN.keep hW) hok)
  have C4 := Lib.hid (fun W (hW : Below w.heap.size w W) => devRobots_c Ab An As Ar cb cn cs cr N W (hN.keep hW) hok hcr)
  have C5 := Lib.hid (fun W => devConfig_c N.queue N.aging N.detours N.patience W hok.conf)
  have hB0 := Lib.hid ((Below.refl w.heap.size w).alloc (Nat.le_refl _) (.cells (netCells Ab An As Ar cb cn cs cr N) 29))
  have HX := Lib.hid (boxAt_of (heap_alloc_new w (.cells (netCells Ab An As Ar cb cn cs cr N) 29)))
  have hsz0 : w.heap.size < (w.alloc (.cells (netCells Ab An As Ar cb cn cs cr N) 29)).heap.size := by simp
  obtain ⟨x0, x1, x2, x3, x4, x5, x6, x7⟩ := boxAt_of (heap_alloc_new w (.cells (netCells Ab An As Ar cb cn cs cr N) 29))
  clear hN hok
  go_enter Tryd.func32, Tryd.ntmps32
  go_wp2_with fail
  generalize w.alloc (.cells (netCells Ab An As Ar cb cn cs cr N) 29) = w0 at *
  refine (C1.out _ hB0.out).mono ?_
  rintro e w1 ⟨rfl, hb1⟩
  have HB1 : Hid (Below w0.heap.size w0 w1) := Lib.hid hb1
  clear x0 x1 x2 x3 x4 x5 x6 x7 hb1
  obtain ⟨x0, x1, x2, x3, x4, x5, x6, x7⟩ := HX.out.keep hsz0 HB1.out
  go_wp2_with fail
  refine (C2.out _ (hB0.out.trans (HB1.out.mono (Nat.le_of_lt hsz0)))).mono ?_
  rintro e w2 ⟨rfl, hb2⟩
  have HB2 : Hid (Below w0.heap.size w0 w2) := Lib.hid (HB1.out.trans (hb2.mono HB1.out.size))
  clear x0 x1 x2 x3 x4 x5 x6 x7 hb2 HB1
  obtain ⟨x0, x1, x2, x3, x4, x5, x6, x7⟩ := HX.out.keep hsz0 HB2.out
  go_wp2_with fail
  refine (C3.out _ (hB0.out.trans (HB2.out.mono (Nat.le_of_lt hsz0)))).mono ?_
  rintro e w3 ⟨rfl, hb3⟩
  have HB3 : Hid (Below w0.heap.size w0 w3) := Lib.hid (HB2.out.trans (hb3.mono HB2.out.size))
  clear x0 x1 x2 x3 x4 x5 x6 x7 hb3 HB2
  obtain ⟨x0, x1, x2, x3, x4, x5, x6, x7⟩ := HX.out.keep hsz0 HB3.out
  go_wp2_with fail
  refine (C4.out _ (hB0.out.trans (HB3.out.mono (Nat.le_of_lt hsz0)))).mono ?_
  rintro e w4 ⟨rfl, hb4⟩
  have HB4 : Hid (Below w0.heap.size w0 w4) := Lib.hid (HB3.out.trans (hb4.mono HB3.out.size))
  clear x0 x1 x2 x3 x4 x5 x6 x7 hb4 HB3
  obtain ⟨x0, x1, x2, x3, x4, x5, x6, x7⟩ := HX.out.keep hsz0 HB4.out
  go_wp2_with fail
  refine (C5.out _).mono ?_
  rintro e w5 ⟨rfl, hb5⟩
  have HB5 : Hid (Below w0.heap.size w0 w5) := Lib.hid (HB4.out.trans (hb5.mono HB4.out.size))
  clear hb5
  go_wp2
  go_ret
  exact ⟨rfl, hB0.out.trans (HB5.out.mono (Nat.le_of_lt hsz0))⟩
end Go.Proofs.YtcpoojlhfebcmaaDoor
