/- ChannelSends returns true: channel's functions return what the reference returns, for all lists. -/
import Derived.Test.YtckknakpmaagnaaCnMade
import Derived.Test.YtckknakpmaagnaaCnKnown
import Derived.Test.YtckknakpmaagnaaCnRef
namespace Go.Proofs.Ytckknakpmaagnaa
open Go Go.RowKit Fl

theorem delL_le (l : List FrD) (z : Int) : (delL l z).length ≤ l.length := by
  unfold delL
  split
  · unfold dropL; simp; omega
  · simp
theorem dblL_le (l : List FrD) (z : Int) : (dblL l z).length ≤ 6 := by
  unfold dblL
  split
  · exact sendL_len _ _
  · simp
set_option maxRecDepth 100000 in
set_option maxHeartbeats 4000000 in
theorem channelSends_c (A0 A1 : Option Addr) (c0 c1 : Nat) (l0 : List FrD) (f0 : FrD) (i0 : Int) (zs : List Int) (w : World) (hh : Holds w A0 (frC l0)) (hc0 : l0.length ≤ c0) (hl0 : l0.length ≤ 1000000000000000000) (hz : IntsAt w w.heap.size A1 zs) (hzl : zs.length ≤ maxLen) :
    Calls Try.prog 3 #[.slice A0 l0.length c0, FV f0, .int .i64 i0, .slice A1 zs.length c1] w fun e w' => e = .returned (.bool true) ∧ Below w.heap.size w w' := by
  have HB0 := Lib.hid (below_newF w (.cells (FC f0) 25))
  have HX0 : Hid (FrAt (w.alloc (.cells (FC f0) 25)) w.heap.size f0) := Lib.hid (FrAt.new w _)
  have HH0 := Lib.hid (hh.keep HB0.out)
  have hs0 : w.heap.size < (w.alloc (.cells (FC f0) 25)).heap.size := by simp
  have HZ := Lib.hid ((hz.keep (Nat.le_refl _) HB0.out))
  have HL := Lib.hid hzl
  clear hz hzl hh
  go_enter Try.func3, Try.ntmps3
  go_wp2_with fail
  generalize w.alloc (.cells (FC f0) 25) = w0 at *
  refine (known14_c w0).mono ?_
  rintro e w1 ⟨rfl, hb1⟩
  have HT := Lib.hid (tape_new (c := c1) HZ.out (by omega) hb1 HL.out)
  have HB1 : Hid (Below w.heap.size w (w1.alloc (.cells #[.slice A1 zs.length c1, .int .i64 0] 30))) := Lib.hid ((HB0.out.trans (hb1.mono (by omega))).alloc (by have := hb1.size; omega) _)
  have HX1 := Lib.hid ((HX0.out.keep hb1).keep (below_newF w1 (.cells #[.slice A1 zs.length c1, .int .i64 0] 30)))
  have HH1 := Lib.hid ((HH0.out.keep hb1).keep (below_newF w1 (.cells #[.slice A1 zs.length c1, .int .i64 0] 30)))
  have hgB : w.heap.size < w1.heap.size := by have := hb1.size; omega
  have hsz : w1.heap.size < (w1.alloc (.cells #[.slice A1 zs.length c1, .int .i64 0] 30)).heap.size := by simp
  clear hb1 HZ HL HX0 HH0 HB0 hs0
  go_wp2_with fail
  generalize w1.alloc (.cells #[.slice A1 zs.length c1, .int .i64 0] 30) = w2 at *
  generalize w1.heap.size = g at *
  generalize hX : w.heap.size = X at *
  have HXe := Lib.hid hX
  clear hX
  go_loopw [0, 2, 10] (fun r i k wr => ∃ (A : Option Addr) (c : Nat) (l : List FrD) (z : Int) (f : FrD) (q : Nat), r = .slice A l.length c ∧ i = .int .i64 z ∧ k = .int .i64 q ∧ q ≤ 2 ∧ Hid (Holds wr A (frC l)) ∧ l.length ≤ c ∧ l.length ≤ 1000000000000000000 ∧ Hid (FrAt wr X f) ∧ Hid (TapeOk wr X g (100 * q)) ∧ Hid (Below X w wr) ∧ g < wr.heap.size) (fun _ _ k _ => 2 - (intOf k).toNat)
  case atStart => exact ⟨A0, c0, l0, i0, f0, 0, rfl, rfl, rfl, by omega, HH1, hc0, hl0, HX1, HT, HB1, hsz⟩
  case round =>
    clear HH1 HX1 HT HB1 hc0 hl0 hsz
    obtain ⟨A, c, l, z, f, q, rfl, rfl, rfl, hq, HH, hc, hl, HX, HT, HB, hg⟩ := hrel
    by_cases hlt : q < 2
    · have hlt' : (q : Int) < 2 := by omega
      go_upto_if 35 with (fail)
      go_cut [0, 2] (fun r i wx => ∃ (A : Option Addr) (c : Nat) (l : List FrD) (z : Int) (f : FrD), r = .slice A l.length c ∧ i = .int .i64 z ∧ Hid (Holds wx A (frC l)) ∧ l.length ≤ c ∧ l.length ≤ 1000000000000000000 ∧ Hid (FrAt wx X f) ∧ Hid (TapeOk wx X g (100 * (q + 1))) ∧ Hid (Below X w wx) ∧ g < wx.heap.size)
      case first =>
        by_cases hq1 : q = 1
        · subst hq1
          go_wp2_with fail
          refine (next_c X g (100 * 1) 8 wr HT.out (by omega) (by omega) (by omega)).mono ?_
          rintro e w3 ⟨n, hn, rfl, ht3, hg3⟩
          have HT3 := Lib.hid ht3
          have HB3 : Hid (Below X w w3) := Lib.hid (HB.out.grown hg3 (by omega) (fun k hk => by injection hk with hk; omega))
          have HX3 := Lib.hid (HX.out.grown hg3 (fun e => by injection e with e; omega))
          have hs3 : g < w3.heap.size := Nat.lt_of_lt_of_le hg hg3.size
          clear ht3 hg3 HT HB HX HH
          go_wp2_with fail
          refine (frames_c n X g _ w3 HT3.out (by omega) (by omega) (by omega)).mono ?_
          rintro e w4 ⟨u, l4, rfl, hl4, hO4, ht4, hg4⟩
          have HT4 := Lib.hid ht4
          have HB4 : Hid (Below X w w4) := Lib.hid (HB3.out.grown hg4 (by omega) (fun k hk => by injection hk with hk; omega))
          have HX4 := Lib.hid (HX3.out.grown hg4 (fun e => by injection e with e; omega))
          have HO4 := Lib.hid hO4
          have hs4 : g < w4.heap.size := Nat.lt_of_lt_of_le hs3 hg4.size
          clear ht4 hg4 hO4 HT3 HB3 HX3
          go_wp2_with fail
          refine (frame_c X g _ w4 HT4.out (by omega) (by omega)).mono ?_
          rintro e w5 ⟨f5, rfl, _, _, ht5, hg5⟩
          have HT5 := Lib.hid ht5
          have HB5 : Hid (Below X w w5) := Lib.hid (HB4.out.grown hg5 (by omega) (fun k hk => by injection hk with hk; omega))
          have HX5 := Lib.hid (HX4.out.grown hg5 (fun e => by injection e with e; omega))
          have HO5 := Lib.hid (own_farF HO4.out hg5 (by omega))
          have hs5 : g < w5.heap.size := Nat.lt_of_lt_of_le hs4 hg5.size
          clear ht5 hg5 HO4 HT4 HB4 HX4
          go_wp2_with fail
          refine (next_c X g _ 8 w5 HT5.out (by omega) (by omega) (by omega)).mono ?_
          rintro e w6 ⟨r, hr, rfl, ht6, hg6⟩
          have HB6 : Hid (Below X w w6) := Lib.hid (HB5.out.grown hg6 (by omega) (fun k hk => by injection hk with hk; omega))
          have HX6 := Lib.hid (HX5.out.grown hg6 (fun e => by injection e with e; omega))
          have HO6 := Lib.hid (own_farF HO5.out hg6 (by omega))
          have hs6 : g < w6.heap.size := Nat.lt_of_lt_of_le hs5 hg6.size
          have HT6 : Hid (TapeOk (put5W w6 X f5) X g (100 * (1 + 1))) := Lib.hid ((ht6.grown (put5_grown w6 X f5) (fun e => by injection e with e; omega) (fun k hk => by injection hk with hk; omega)).more (by omega))
          have HP6 := Lib.hid (HX6.out.put5 f5)
          have HO7 := Lib.hid (own_farF HO6.out (put5_grown w6 X f5) (by omega))
          have HB7 := Lib.hid (put5_below (f := f5) HB6.out (Nat.le_refl X))
          have hs7 : g < (put5W w6 X f5).heap.size := Nat.lt_of_lt_of_le hs6 (put5_grown w6 X f5).size
          obtain ⟨x0, x1, x2, x3, x4⟩ := HX6.out.cell
          obtain ⟨y0, y1, y2, y3, y4⟩ := HX6.out.frozen
          obtain ⟨A7, c7, rfl, hc7, hH7⟩ := own_frs HO7.out
          have HH7 := Lib.hid hH7
          have hwr : IntKind.i64.wrap ((r : Int) - 1) = (r : Int) - 1 := wrap_inF (by omega)
          clear ht6 hg6 HO6 HO5 HB5 HX5 HT5 HX6 hH7
          go_wp2
          go_meet
          case rel => exact ⟨A7, c7, l4, (r : Int) - 1, f5, by rw [hl4], rfl, HH7, hc7, by omega, HP6, HT6, HB7, hs7⟩
        · have hq1' : ((q : Int) == 1) = false := by rw [beq_eq_false_iff_ne]; omega
          go_wp2
          go_meet
          case rel => exact ⟨A, c, l, z, f, rfl, rfl, HH, hc, hl, HX, Lib.hid (HT.out.more (by omega)), HB, hg⟩
      case rest =>
        clear HH HX HT HB hg hc hl
        obtain ⟨A, c, l, z, f, rfl, rfl, HH, hc, hl, HX, HT, HB, hg⟩ := hcut
        have CD : Hid (Calls Try.prog 10 #[.slice A l.length c, .int .i64 z] wc (DelPost l z wc)) := Lib.hid (devDel_c A c l z wc HH.out hc)
        have CR := Lib.hid (fun W hh => refDel_c A c l z W hh hc)
        have CL := Lib.hid (fun W hh => devLose_c A c l z W hh hc)
        have CM := Lib.hid (fun W hh => refLose_c A c l z W hh hc)
        have CX := Lib.hid (fun W hh => devDbl_c A c l z W hh)
        have CY := Lib.hid (fun W hh => refDbl_c A c l z W hh)
        have HLl : Hid ((delL l z).length ≤ 1000000000000000000 ∧ (dblL l z).length ≤ 1000000000000000000 ∧ (sendL l f).length ≤ 1000000000000000000) := Lib.hid (by
          have h1 := sendL_len l f
          have h2 := delL_le l z
          have h3 := dblL_le l z
          exact ⟨by omega, by omega, by omega⟩)
        unfold DelPost at CD CR
        unfold LosePost at CL CM
        unfold DblPost at CX CY
        generalize delF l z = F at *
        generalize delL l z = L at *
        generalize dblL l z = D at *
        generalize hasI l z = v at *
        have hvv : (v != v) = false := by simp
        go_wp2_with fail
        refine CD.out.mono ?_
        rintro e w3 ⟨ua, rfl, hOa, hba⟩
        have HHa := Lib.hid ((HH.out.keep hba).keep (below_newF w3 (.cells (FC F) 25)))
        have HXa := Lib.hid ((HX.out.keep hba).keep (below_newF w3 (.cells (FC F) 25)))
        have HTa := Lib.hid ((HT.out.keep hba).keep (below_newF w3 (.cells (FC F) 25)))
        have HOa := Lib.hid ((own_frs hOa).keep (below_newF w3 (.cells (FC F) 25)))
        have HYa : Hid (FrAt (w3.alloc (.cells (FC F) 25)) w3.heap.size F) := Lib.hid (FrAt.new w3 F)
        have HBa := Lib.hid ((HB.out.trans (hba.mono (by have := hgB; omega))).alloc (by have := hba.size; omega) (.cells (FC F) 25))
        have hga : g < (w3.alloc (.cells (FC F) 25)).heap.size := by have := hba.size; simp; omega
        clear hOa hba HH HX HT HB CD hg
        go_wp2_with fail
        generalize w3.alloc (.cells (FC F) 25) = w4 at *
        generalize w3.heap.size = Ya at *
        refine (CR.out w4 HHa.out).mono ?_
        rintro e w5 ⟨ub, rfl, hOb, hbb⟩
        have HHb := Lib.hid ((HHa.out.keep hbb).keep (below_newF w5 (.cells (FC F) 25)))
        have HXb := Lib.hid ((HXa.out.keep hbb).keep (below_newF w5 (.cells (FC F) 25)))
        have HTb := Lib.hid ((HTa.out.keep hbb).keep (below_newF w5 (.cells (FC F) 25)))
        have HOab := Lib.hid ((HOa.out.keep hbb).keep (below_newF w5 (.cells (FC F) 25)))
        have HYab := Lib.hid ((HYa.out.keep hbb).keep (below_newF w5 (.cells (FC F) 25)))
        have HOb := Lib.hid ((own_frs hOb).keep (below_newF w5 (.cells (FC F) 25)))
        have HYb : Hid (FrAt (w5.alloc (.cells (FC F) 25)) w5.heap.size F) := Lib.hid (FrAt.new w5 F)
        have HBb := Lib.hid ((HBa.out.trans (hbb.mono (by omega))).alloc (by have := hbb.size; omega) (.cells (FC F) 25))
        have hgb : g < (w5.alloc (.cells (FC F) 25)).heap.size := by have := hbb.size; simp; omega
        clear hOb hbb HHa HXa HTa HOa HYa HBa CR hga
        obtain ⟨A5, c5, rfl, hc5, hH5⟩ := HOab.out
        obtain ⟨A6, c6, rfl, hc6, hH6⟩ := HOb.out
        have HH5 := Lib.hid hH5
        have HH6 := Lib.hid hH6
        clear hH5 hH6 HOab HOb
        go_wp2_with fail
        generalize w5.alloc (.cells (FC F) 25) = w6 at *
        generalize w5.heap.size = Yb at *
        have HS : Hid (∀ W, Below w6.heap.size w6 W → ((W.cell? ⟨X, 0, none⟩ = some (.int .i64 f.kind) ∧ W.cell? ⟨X, 1, none⟩ = some (.int .i64 f.robot) ∧ W.cell? ⟨X, 2, none⟩ = some (.int .u64 f.seq) ∧ W.cell? ⟨X, 3, none⟩ = some (.int .i64 f.cell) ∧ W.cell? ⟨X, 4, none⟩ = some (.int .i64 f.flag)) ∧ (W.cell? ⟨Ya, 0, none⟩ = some (.int .i64 F.kind) ∧ W.cell? ⟨Ya, 1, none⟩ = some (.int .i64 F.robot) ∧ W.cell? ⟨Ya, 2, none⟩ = some (.int .u64 F.seq) ∧ W.cell? ⟨Ya, 3, none⟩ = some (.int .i64 F.cell) ∧ W.cell? ⟨Ya, 4, none⟩ = some (.int .i64 F.flag)) ∧ W.cell? ⟨Yb, 0, none⟩ = some (.int .i64 F.kind) ∧ W.cell? ⟨Yb, 1, none⟩ = some (.int .i64 F.robot) ∧ W.cell? ⟨Yb, 2, none⟩ = some (.int .u64 F.seq) ∧ W.cell? ⟨Yb, 3, none⟩ = some (.int .i64 F.cell) ∧ W.cell? ⟨Yb, 4, none⟩ = some (.int .i64 F.flag))) := Lib.hid (fun W hW => ⟨(HXb.out.keep hW).cell, (HYab.out.keep hW).cell, (HYb.out.keep hW).cell⟩)
        have CS1 := Lib.hid (fun W (hW : Below w6.heap.size w6 W) => devSend_c A c l f W (HHb.out.keep hW))
        have CS2 := Lib.hid (fun W (hW : Below w6.heap.size w6 W) => refSend_c A c l f W (HHb.out.keep hW))
        have CE := Lib.hid (fun W (hW : Below w6.heap.size w6 W) => sameF_c A5 A6 c5 c6 L.length L rfl W (HH5.out.keep hW) (HH6.out.keep hW) HLl.out.1)
        have CEs := Lib.hid (fun A c A' c' W (h : Holds W A (frC (sendL l f))) (h' : Holds W A' (frC (sendL l f))) => sameF_c A A' c c' (sendL l f).length (sendL l f) rfl W h h' HLl.out.2.2)
        have hef := fun W => eq_frame F F W
        simp only [decide_true] at hef
        have hgd := guard_frame
        have hb6 : Below w6.heap.size w6 w6 := Below.refl _ _
        unfold SendPost at CS1 CS2
        generalize sendL l f = SL at *
        have HTb2 := Lib.hid (fun W (hW : Below w6.heap.size w6 W) => HTb.out.keep hW)
        go_cut [82] (fun p wx => p = .bool false ∧ Hid (Below w6.heap.size w6 wx))
        case first =>
          go_region_held3 (fun W => ((W.cell? ⟨X, 0, none⟩ = some (.int .i64 f.kind) ∧ W.cell? ⟨X, 1, none⟩ = some (.int .i64 f.robot) ∧ W.cell? ⟨X, 2, none⟩ = some (.int .u64 f.seq) ∧ W.cell? ⟨X, 3, none⟩ = some (.int .i64 f.cell) ∧ W.cell? ⟨X, 4, none⟩ = some (.int .i64 f.flag)) ∧ (W.cell? ⟨Ya, 0, none⟩ = some (.int .i64 F.kind) ∧ W.cell? ⟨Ya, 1, none⟩ = some (.int .i64 F.robot) ∧ W.cell? ⟨Ya, 2, none⟩ = some (.int .u64 F.seq) ∧ W.cell? ⟨Ya, 3, none⟩ = some (.int .i64 F.cell) ∧ W.cell? ⟨Ya, 4, none⟩ = some (.int .i64 F.flag)) ∧ W.cell? ⟨Yb, 0, none⟩ = some (.int .i64 F.kind) ∧ W.cell? ⟨Yb, 1, none⟩ = some (.int .i64 F.robot) ∧ W.cell? ⟨Yb, 2, none⟩ = some (.int .u64 F.seq) ∧ W.cell? ⟨Yb, 3, none⟩ = some (.int .i64 F.cell) ∧ W.cell? ⟨Yb, 4, none⟩ = some (.int .i64 F.flag))) (first | exact HS.out _ (by repeat (first | assumption | (with_reducible exact Below.refl _ _) | (with_reducible refine Below.drew ?_) | (with_reducible refine below_drewN ?_ _)))) (first
            | (go_at_call 13; (with_reducible refine (CS1.out _ (by repeat (first | assumption | (with_reducible exact Below.refl _ _) | (with_reducible refine Below.drew ?_) | (with_reducible refine below_drewN ?_ _)))).mono ?_); rintro e wS1 ⟨u1, rfl, hO1, hbS1⟩; obtain ⟨B1, d1, rfl, hd1, hH1⟩ := own_frs hO1; have HK1 : ∀ W', Below wS1.heap.size wS1 W' → Holds W' B1 (frC SL) := (fun W' h => hH1.keep h); have hbT1 : Below w6.heap.size w6 wS1 := below_later (by repeat (first | assumption | (with_reducible exact Below.refl _ _) | (with_reducible refine Below.drew ?_) | (with_reducible refine below_drewN ?_ _))) hbS1)
            | (go_at_call 14; (with_reducible refine (CS2.out _ (by repeat (first | assumption | (with_reducible exact Below.refl _ _) | (with_reducible refine Below.drew ?_) | (with_reducible refine below_drewN ?_ _)))).mono ?_); rintro e wS2 ⟨u2, rfl, hO2, hbS2⟩; obtain ⟨B2, d2, rfl, hd2, hH2⟩ := own_frs hO2; have HK2 : ∀ W', Below wS2.heap.size wS2 W' → Holds W' B2 (frC SL) := (fun W' h => hH2.keep h); have hbT2 : Below w6.heap.size w6 wS2 := below_later (by repeat (first | assumption | (with_reducible exact Below.refl _ _) | (with_reducible refine Below.drew ?_) | (with_reducible refine below_drewN ?_ _))) hbS2)
            | (go_at_call 12; (with_reducible refine (CEs.out B1 d1 B2 d2 _ (HK1 _ (by repeat (first | assumption | (with_reducible exact Below.refl _ _) | (with_reducible refine Below.drew ?_) | (with_reducible refine below_drewN ?_ _)))) (HK2 _ (by repeat (first | assumption | (with_reducible exact Below.refl _ _) | (with_reducible refine Below.drew ?_) | (with_reducible refine below_drewN ?_ _))))).mono ?_); rintro e wE ⟨rfl, nE, rfl⟩)
            | (go_at_call 12; (with_reducible refine (CE.out _ (by repeat (first | assumption | (with_reducible exact Below.refl _ _) | (with_reducible refine Below.drew ?_) | (with_reducible refine below_drewN ?_ _)))).mono ?_); rintro e wE2 ⟨rfl, nE2, rfl⟩))
          all_goals
            go_wp2_with fail
            go_meet
            case rel => exact ⟨rfl, Lib.hid (by repeat (first | assumption | (with_reducible exact Below.refl _ _) | (with_reducible refine Below.drew ?_) | (with_reducible refine below_drewN ?_ _)))⟩
        case rest =>
          obtain ⟨rfl, HW7⟩ := hcut
          have hs7 := HW7.out.size
          have HH7 := Lib.hid (HHb.out.keep HW7.out)
          have HX7 := Lib.hid (HXb.out.keep HW7.out)
          have HT7 := Lib.hid (HTb.out.keep HW7.out)
          have HB7 := Lib.hid (HBb.out.trans (HW7.out.mono (by omega)))
          clear HS CS1 CS2 CE CEs HHb HXb HTb HTb2 HBb HYab HYb HH5 HH6 HW7 hef hb6
          go_wp2_with fail
          refine (CL.out wc HH7.out).mono ?_
          rintro e w8 ⟨u8', rfl, hO8, hb8⟩
          have HO8 := Lib.hid (own_frs hO8)
          have HW8 := Lib.hid hb8
          clear hO8 hb8 CL
          go_wp2_with fail
          refine (CM.out w8 (HH7.out.keep HW8.out)).mono ?_
          rintro e w9 ⟨u9, rfl, hO9, hb9⟩
          have HO9 := Lib.hid (own_frs hO9)
          have HW9 := Lib.hid (below_later HW8.out hb9)
          have HO89 := Lib.hid (HO8.out.keep hb9)
          clear hO9 hb9 CM HO8 HW8
          go_wp2_with fail
          refine (CX.out w9 (HH7.out.keep HW9.out)).mono ?_
          rintro e w10 ⟨u10, rfl, hOx, hbx⟩
          have HOx := Lib.hid (own_frs hOx)
          have HW10 := Lib.hid (below_later HW9.out hbx)
          have HO8x := Lib.hid (HO89.out.keep hbx)
          have HO9x := Lib.hid (HO9.out.keep hbx)
          clear hOx hbx CX HO89 HO9 HW9
          go_wp2_with fail
          refine (CY.out w10 (HH7.out.keep HW10.out)).mono ?_
          rintro e w11 ⟨u11', rfl, hOy, hby⟩
          have HW11 := Lib.hid (below_later HW10.out hby)
          obtain ⟨B1, d1, rfl, hd1, hH1⟩ := HO8x.out.keep hby
          obtain ⟨B2, d2, rfl, hd2, hH2⟩ := HO9x.out.keep hby
          obtain ⟨B3, d3, rfl, hd3, hH3⟩ := HOx.out.keep hby
          obtain ⟨B4, d4, rfl, hd4, hH4⟩ := own_frs hOy
          have CE1 := Lib.hid (sameF_c B1 B2 d1 d2 L.length L rfl w11 hH1 hH2 HLl.out.1)
          have CE2 := Lib.hid (fun n => sameF_c B3 B4 d3 d4 D.length D rfl (w11.drewN n) (hH3.drewN n) (hH4.drewN n) HLl.out.2.1)
          clear hOy hby CY HO8x HO9x HOx HW10 hH1 hH2 hH3 hH4
          go_wp2_with fail
          refine CE1.out.mono ?_
          rintro e w12 ⟨rfl, n1, rfl⟩
          go_wp2_with fail
          refine (CE2.out n1).mono ?_
          rintro e w13 ⟨rfl, n2, rfl⟩
          have HTz := Lib.hid ((HT7.out.keep HW11.out).keep (below_drewN (Below.refl _ _) (n1 + n2)))
          have HHz := Lib.hid ((HH7.out.keep HW11.out).keep (below_drewN (Below.refl _ _) (n1 + n2)))
          have HXz := Lib.hid ((HX7.out.keep HW11.out).keep (below_drewN (Below.refl _ _) (n1 + n2)))
          have HBz := Lib.hid (below_drewN (HB7.out.trans (HW11.out.mono (by omega))) (n1 + n2))
          have hgz : g < (w11.drewN (n1 + n2)).heap.size := by have := HW11.out.size; show g < w11.heap.size; omega
          clear CE1 CE2 HT7 HH7 HX7 HB7 HW11
          go_wp2
          go_roundw
          case rel => exact ⟨A, c, l, z, f, q + 1, rfl, rfl, by go_num, by omega, HHz, hc, hl, HXz, HTz, HBz, hgz⟩
          case measure => simp [intOf]; omega
    · obtain rfl : q = 2 := by omega
      go_wp2
      go_ret
      exact ⟨rfl, by rw [HXe.out]; exact HB.out⟩
end Go.Proofs.Ytckknakpmaagnaa
