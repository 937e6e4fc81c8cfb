/- ChannelKeeps returns true: a channel contains only what was sent, as often as it was sent and doubled and not delivered. -/
import Derived.Test.YtckknakpmaagnaaCnKeepB
namespace Go.Proofs.Ytckknakpmaagnaa
open Go Go.RowKit Fl

set_option maxRecDepth 100000 in
set_option maxHeartbeats 4000000 in
theorem channelKeeps_c (A1 : Option Addr) (c1 : Nat) (zs : List Int) (w : World) (hz : IntsAt w w.heap.size A1 zs) (hzl : zs.length ≤ maxLen) :
    Calls Try.prog 4 #[.slice A1 zs.length c1] w fun e w' => e = .returned (.bool true) ∧ Below w.heap.size w w' := by
  have CK := Lib.hid (known14_c w)
  have HZ := Lib.hid hz
  have HL := Lib.hid hzl
  clear hz hzl
  go_enter Try.func4, Try.ntmps4
  go_wp2_with fail
  refine CK.out.mono ?_
  rintro e w1 ⟨rfl, hb1⟩
  have HT := Lib.hid (tape_new (c := c1) HZ.out (Nat.le_refl _) hb1 HL.out)
  have HB1 : Hid (Below w.heap.size w (w1.alloc (.cells #[.slice A1 zs.length c1, .int .i64 0] 30))) := Lib.hid (hb1.alloc hb1.size _)
  have hgB : w.heap.size ≤ w1.heap.size := hb1.size
  have hsz : w1.heap.size < (w1.alloc (.cells #[.slice A1 zs.length c1, .int .i64 0] 30)).heap.size := by simp
  clear hb1 CK HZ HL
  go_wp2_with fail
  generalize w1.alloc (.cells #[.slice A1 zs.length c1, .int .i64 0] 30) = w2 at *
  generalize w1.heap.size = g at *
  refine (frames_c 3 w.heap.size g 0 w2 HT.out (by omega) (by omega) (by omega)).mono ?_
  rintro e w3 ⟨u, all, rfl, hall, hO3, ht3, hg3⟩
  have HT3 := Lib.hid ht3
  have HB3 : Hid (Below w.heap.size w w3) := Lib.hid (HB1.out.grown hg3 (by omega) (fun k hk => by injection hk with hk; omega))
  obtain ⟨b3, c3, rfl, hb3, hb3s, hH3⟩ : ∃ b3 c3, u = .slice (some ⟨b3, 0, none⟩) all.length c3 ∧ g < b3 ∧ b3 < w3.heap.size ∧ Holds w3 (some ⟨b3, 0, none⟩) (frC all) := by
    have h0 := hO3
    obtain ⟨_, h⟩ := hO3
    rcases h with ⟨_, h⟩ | ⟨b3, c3, cur, rfl, hbb, hh, _⟩
    · omega
    · exact ⟨b3, c3, rfl, by omega, block_lt hh, ownsRow_holds h0⟩
  have HH3 := Lib.hid hH3
  clear ht3 hg3 hO3 hH3 HT HB1
  go_wp2_with (refine make_any _ rfl _ _ 26 3 (.int .i64 0) 8 Try.underlying26 Try.infoIntG rfl (by decide) rfl .i64 .i64 _ _ 3 rfl rfl rfl rfl (by omega) ?_)
  intro w4 own4 hb4
  have HK : Hid (KS w.heap.size g w3.heap.size b3 0 all w 100 w4 (.slice none 0 0) [] (mixB (cntA all []) (cntA all []) 0)) := Lib.hid ⟨own_nilF _ _, HH3.out.keep hb4, own4, (HT3.out.keep hb4).more (by omega), HB3.out.trans (hb4.mono (by omega))⟩
  have hs4 : w3.heap.size < w4.heap.size := own_blk own4
  have hXg : w.heap.size ≤ g := hgB
  clear own4 hb4 HT3 HB3 HH3 hgB
  generalize hX : w.heap.size = X at *
  have HXe := Lib.hid hX
  clear hX
  obtain ⟨bb, hbb⟩ : ∃ bb, bb = w3.heap.size := ⟨_, rfl⟩
  rw [← hbb] at HK hs4 hb3s ⊢
  clear hbb hsz
  have HAl : Hid (∀ j (hj : j < all.length) W, Holds W (some ⟨b3, 0, none⟩) (frC all) → FrmIn W b3 (j * 5) all[j]) := Lib.hid (fun j hj W h => by
    obtain ⟨b, o, e, _, hx⟩ := holds_frm h hj
    injection e with e
    injection e with e1 e2
    subst e1 e2
    rwa [Nat.zero_add] at hx)
  go_wp2_with fail
  go_loopw [6, 7] (fun v k wr => ∃ (L : List FrD) (q : Nat), k = .int .i64 q ∧ q ≤ 30 ∧ L.length ≤ 6 ∧ Hid (KS X g bb b3 0 all w (100 + 4 * q) wr v L (mixB (cntA all L) (cntA all L) 0)) ∧ bb < wr.heap.size) (fun _ k _ => 30 - (intOf k).toNat)
  case atStart => exact ⟨[], 0, rfl, by omega, by simp, HK, hs4⟩
  case round =>
    clear HK hs4
    obtain ⟨L, q, rfl, hq, hL6, HK, hs⟩ := hrel
    obtain ⟨A, c, rfl, hLc⟩ := own_form HK.out.own
    by_cases hlt : q < 30
    · have hlt' : (q : Int) < 30 := by omega
      go_wp2_with fail
      refine (next_c X g _ 6 wr HK.out.tape (by omega) (by omega) (by omega)).mono ?_
      rintro e w5 ⟨i, hi, rfl, ht5, hg5⟩
      have HK5 := Lib.hid (HK.out.next ht5 hg5 hXg hb3 hb3s (by omega))
      have hs5 : bb < w5.heap.size := Nat.lt_of_lt_of_le hs hg5.size
      clear ht5 hg5 HK hs
      go_upto_region 11 with fail
      go_wp2_with fail
      refine (next_c X g _ 4 w5 HK5.out.tape (by omega) (by omega) (by omega)).mono ?_
      rename_i K1 hK1 K0 hK0
      rintro e w6 ⟨s, hs6, rfl, ht6, hg6⟩
      have HK6 := Lib.hid (HK5.out.next ht6 hg6 hXg hb3 hb3s (by omega))
      have hs6' : bb < w6.heap.size := Nat.lt_of_lt_of_le hs5 hg6.size
      clear ht6 hg6 HK5 hs5
      refine hK0 _ _ ?_
      refine wpList_nil ?_
      show K1 _ _
      refine hK1 _ _ ?_
      clear hK0 K0
      go_cut [6] from 28 to 164 (fun v wx => ∃ (L' : List FrD), L'.length ≤ 6 ∧ Hid (KS X g bb b3 0 all w (100 + 4 * (q + 1)) wx v L' (mixB (cntA all L') (cntA all L') 0)) ∧ bb < wx.heap.size)
      case first =>
        have hsc : (s = 0 ∨ s = 1) ∨ s = 2 ∨ s = 3 := by omega
        have hs60 := hs6
        clear hs6 hs60
        rcases hsc with hsc | rfl | rfl
        · rcases hsc with rfl | rfl
          all_goals
            go_wp2_with fail
            refine (next_c X g _ 3 w6 HK6.out.tape (by omega) (by omega) (by omega)).mono ?_
            rintro e w7 ⟨f, hf, rfl, ht7, hg7⟩
            have HK7 := Lib.hid (HK6.out.next ht7 hg7 hXg hb3 hb3s (by omega))
            have hs7 : bb < w7.heap.size := Nat.lt_of_lt_of_le hs6' hg7.size
            have hf3 : f < all.length := by omega
            obtain ⟨e0, e1, e2, e3, e4⟩ := HAl.out f hf3 w7 HK7.out.all
            have CS : Hid (Calls Try.prog 13 #[.slice A L.length c, FV all[f]] w7 (SendPost L all[f] w7)) := Lib.hid (devSend_c A c L all[f] w7 (by obtain ⟨A', c', h1, _, h3⟩ := own_frs HK7.out.own; injection h1 with h1; subst h1; exact h3))
            have HSm := Lib.hid (fun j (hj : j < all.length) => cntA_send (L := L) all[f] hj hL6)
            have HSl := Lib.hid (sendL_len L all[f])
            obtain ⟨L', hL'⟩ : ∃ L', sendL L all[f] = L' := ⟨_, rfl⟩
            unfold SendPost at CS
            rw [hL'] at CS HSm HSl
            clear hL' ht7 hg7 HK6
            have HEq := Lib.hid (fun j (hj : j < all.length) W => eq_frame all[j] all[f] W)
            have HFf := Lib.hid (fun W h => HAl.out f hf3 W h)
            generalize all[f] = ff at *
            go_wp2_with fail
            refine CS.out.mono ?_
            rintro e w8 ⟨u8', rfl, hO8, hb8⟩
            have HK8 := Lib.hid (HK7.out.call hb8 (by omega))
            have HO8 := Lib.hid (ownsRow_base hO8 (show bb + 1 ≤ w7.heap.size by omega))
            have hs8 : bb < w8.heap.size := Nat.lt_of_lt_of_le hs7 hb8.size
            obtain ⟨An, cn, rfl, hcn⟩ := own_form hO8
            have hL6' := HSl.out
            clear hO8 hb8 HK7 CS e0 e1 e2 e3 e4
            obtain ⟨dd, hdd⟩ : ∃ dd : Int, dd = (L'.length : Int) - L.length := ⟨_, rfl⟩
            have hwd : IntKind.i64.wrap ((L'.length : Int) - L.length) = dd := by rw [hdd]; exact wrap_inF (by omega)
            rw [← hdd] at HSm
            clear hdd
            go_wp2
            go_loopw [11] (fun j wr => ∃ n : Nat, j = .int .i64 n ∧ n ≤ 3 ∧ Hid (KS X g bb b3 0 all w (100 + 4 * q + 1 + 1 + 1) wr (.slice A L.length c) L (mixB (cntA all L) (cntA all L') n)) ∧ Hid (OwnFr wr (bb + 1) (.slice An L'.length cn) L') ∧ bb < wr.heap.size) (fun j _ => 3 - (intOf j).toNat)
            case atStart => exact ⟨0, rfl, by omega, HK8, HO8, hs8⟩
            case round =>
              clear HK8 HO8 hs8
              obtain ⟨j, rfl, hj, HK8, HO8, hs8⟩ := hrel
              by_cases hj3 : j < 3
              · have hj3' : j < all.length := by omega
                have hbd1 := cntA_bound (all := all) hL6 j
                have hbd2 := cntA_bound (all := all) hL6' j
                obtain ⟨bc, bf⟩ := HK8.out.cell (mix_get hj3)
                obtain ⟨x0, x1, x2, x3, x4⟩ := HAl.out j hj3' wr HK8.out.all
                obtain ⟨y0, y1, y2, y3, y4⟩ := HFf.out wr HK8.out.all
                have HCn := Lib.hid (HSm.out j hj3')
                have hef := fun W => HEq.out j hj3' W
                have HMs := Lib.hid (mix_set (cntA all L) (cntA all L') hj3)
                have HMe := Lib.hid (fun h => mix_same (o := cntA all L) (n := cntA all L') hj3 h)
                generalize cntA all L j = cl at *
                generalize cntA all L' j = cl' at *
                generalize all[j] = fj at *
                obtain ⟨a0, a1, a2, a3, a4⟩ := fj
                obtain ⟨d0, d1, d2, d3, d4⟩ := ff
                dsimp only at x0 x1 x2 x3 x4 y0 y1 y2 y3 y4
                have hgd := guard_frame
                by_cases hm : (⟨a0, a1, a2, a3, a4⟩ : FrD) = ⟨d0, d1, d2, d3, d4⟩
                · have hcl : cl' = cl + dd := by have := HCn.out; rwa [if_pos hm] at this
                  have hwc : IntKind.i64.wrap (cl + dd) = cl' := by rw [← hcl]; exact wrap_inF (by omega)
                  have hef2 := fun W => (hef W).trans (by rw [decide_eq_true hm])
                  clear hm hef HCn HSm HEq HFf HMe hcl
                  go_wp2
                  go_quiet (fail)
                  go_wp2
                  go_roundw
                  case rel => exact ⟨j + 1, by go_num, by omega, Lib.hid (by have h := (HK8.out.drewN (by omega) nq).put j cl' hXg hb3 hb3s (by show X ≤ wr.heap.size; omega); rw [HMs.out] at h; exact h), Lib.hid (own_putF (OwnFr.keep HO8.out (below_drewN (Below.refl _ _) nq)) (by omega)), by simp [World.setCell]; omega⟩
                  case measure => simp [intOf]; omega
                · have hcl : cl' = cl := by have := HCn.out; rw [if_neg hm] at this; omega
                  have hef2 := fun W => (hef W).trans (by rw [decide_eq_false hm])
                  have HMx := Lib.hid (HMe.out hcl)
                  clear hm hef HCn HSm HEq HFf HMe hcl
                  go_wp2
                  go_quiet (fail)
                  go_wp2
                  go_roundw
                  case rel => exact ⟨j + 1, by go_num, by omega, Lib.hid (by have h := HK8.out.drewN (by omega) nq; rw [HMx.out]; exact h), Lib.hid (OwnFr.keep HO8.out (below_drewN (Below.refl _ _) nq)), hs8⟩
                  case measure => simp [intOf]; omega
              · obtain rfl : j = 3 := by omega
                have HKe : Hid (KS X g bb b3 0 all w (100 + 4 * (q + 1)) wr (.slice An L'.length cn) L' (mixB (cntA all L') (cntA all L') 0)) := Lib.hid ((HK8.out.with HO8.out).more (by omega))
                clear HK8 HO8 HSm HEq HFf
                go_wp2
                go_meet
                case rel => exact ⟨L', hL6', HKe, hs8⟩
        · rcases hzi : hasI L (i : Int) with _ | _
          · have hni : ¬ (i : Int) < (L.length : Int) := fun h => by rw [hasI_lt (by omega) hL6] at hzi; cases hzi
            have CD : Hid (Calls Try.prog 10 #[.slice A L.length c, .int .i64 (i : Int)] w6 (DelPost L i w6)) := Lib.hid (devDel_c A c L i w6 HK6.out.holds hLc)
            unfold DelPost at CD
            rw [(hasI_no hzi).1, (hasI_no hzi).2.1, hzi] at CD
            clear hzi
            go_wp2_with fail
            refine CD.out.mono ?_
            rintro e w7 ⟨u7, rfl, _, hb7⟩
            have HK7 := Lib.hid ((HK6.out.call hb7 (by omega)).call (below_newF w7 (.cells (FC zeroF) 25)) (by have := hb7.size; omega))
            have hs7 : bb < (w7.alloc (.cells (FC zeroF) 25)).heap.size := by have := hb7.size; simp; omega
            clear hb7 HK6 CD
            have hd : decide ((i : Int) < (L.length : Int)) = false := by simpa using hni
            go_wp2
            exact ⟨⟨L, q + 1, by go_num, by omega, hL6, Lib.hid (HK7.out.more (by omega)), hs7⟩, by simp [intOf]; omega⟩
          · have hni : i < L.length := by have := (hasI_iff.1 hzi).2.2; omega
            have hnii : (i : Int) < (L.length : Int) := by omega
            have CD : Hid (Calls Try.prog 10 #[.slice A L.length c, .int .i64 (i : Int)] w6 (DelPost L i w6)) := Lib.hid (devDel_c A c L i w6 HK6.out.holds hLc)
            obtain ⟨_, _, hd1, hd2, _⟩ := hasI_at hzi
            unfold DelPost at CD
            rw [hd1, hd2, hzi] at CD
            have HSm := Lib.hid (fun j (hj : j < all.length) => cntA_drop (L := L) hj hni)
            have HSl := Lib.hid (dropL_len hni)
            have HEq := Lib.hid (fun j (hj : j < all.length) W => eq_frame all[j] L[i] W)
            generalize dropL L i = L' at *
            generalize L[i] = ff at *
            clear hzi hd1 hd2
            go_wp2_with fail
            refine CD.out.mono ?_
            rintro e w7 ⟨u7, rfl, hO7, hb7⟩
            have HX8 : Hid (FrAt (w7.alloc (.cells (FC ff) 25)) w7.heap.size ff) := Lib.hid (FrAt.new w7 ff)
            have HK8 := Lib.hid ((HK6.out.call hb7 (by omega)).call (below_newF w7 (.cells (FC ff) 25)) (by have := hb7.size; omega))
            have HO8 := Lib.hid (OwnFr.keep (ownsRow_base hO7 (show bb + 1 ≤ w6.heap.size by omega)) (below_newF w7 (.cells (FC ff) 25)))
            have hs8 : bb < (w7.alloc (.cells (FC ff) 25)).heap.size := by have := hb7.size; simp; omega
            have hXX : bb < w7.heap.size := by have := hb7.size; omega
            obtain ⟨An, cn, rfl, hcn⟩ := own_form HO8.out
            have hL6' : L'.length ≤ 6 := by have := HSl.out; omega
            clear hO7 hb7 HK6 CD HSl
            go_wp2_with fail
            generalize w7.alloc (.cells (FC ff) 25) = w8 at *
            generalize w7.heap.size = Xf at *
            go_loopw [15] (fun j wr => ∃ n : Nat, j = .int .i64 n ∧ n ≤ 3 ∧ Hid (KS X g bb b3 0 all w (100 + 4 * q + 1 + 1) wr (.slice A L.length c) L (mixB (cntA all L) (cntA all L') n)) ∧ Hid (OwnFr wr (bb + 1) (.slice An L'.length cn) L') ∧ bb < wr.heap.size ∧ Hid (FrAt wr Xf ff)) (fun j _ => 3 - (intOf j).toNat)
            case atStart => exact ⟨0, rfl, by omega, HK8, HO8, hs8, HX8⟩
            case round =>
              clear HK8 HO8 hs8 HX8
              obtain ⟨j, rfl, hj, HK8, HO8, hs8, HX8⟩ := hrel
              by_cases hj3 : j < 3
              · have hj3' : j < all.length := by omega
                have hbd1 := cntA_bound (all := all) hL6 j
                have hbd2 := cntA_bound (all := all) hL6' j
                obtain ⟨bc, bf⟩ := HK8.out.cell (mix_get hj3)
                obtain ⟨x0, x1, x2, x3, x4⟩ := HAl.out j hj3' wr HK8.out.all
                obtain ⟨y0, y1, y2, y3, y4⟩ := HX8.out.cell
                have HCn := Lib.hid (HSm.out j hj3')
                have hef := fun W => HEq.out j hj3' W
                have HMs := Lib.hid (mix_set (cntA all L) (cntA all L') hj3)
                have HMe := Lib.hid (fun h => mix_same (o := cntA all L) (n := cntA all L') hj3 h)
                generalize cntA all L j = cl at *
                generalize cntA all L' j = cl' at *
                generalize all[j] = fj at *
                obtain ⟨a0, a1, a2, a3, a4⟩ := fj
                obtain ⟨d0, d1, d2, d3, d4⟩ := ff
                dsimp only at x0 x1 x2 x3 x4 y0 y1 y2 y3 y4
                have hgd := guard_frame
                by_cases hm : (⟨a0, a1, a2, a3, a4⟩ : FrD) = ⟨d0, d1, d2, d3, d4⟩
                · have hcl : cl' = cl - 1 := by have := HCn.out; rwa [if_pos hm] at this
                  have hwc : IntKind.i64.wrap (cl - 1) = cl' := by rw [← hcl]; exact wrap_inF (by omega)
                  have hef2 := fun W => (hef W).trans (by rw [decide_eq_true hm])
                  clear hm hef HCn HSm HEq HMe hcl
                  go_wp2
                  go_quiet (fail)
                  go_wp2
                  go_roundw
                  case rel => exact ⟨j + 1, by go_num, by omega, Lib.hid (by have h := (HK8.out.drewN (by omega) nq).put j cl' hXg hb3 hb3s (by show X ≤ wr.heap.size; omega); rw [HMs.out] at h; exact h), Lib.hid (own_putF (OwnFr.keep HO8.out (below_drewN (Below.refl _ _) nq)) (by omega)), by simp [World.setCell]; omega, Lib.hid ((FrAt.keep HX8.out (below_drewN (Below.refl _ _) nq)).grown (grown_cell _ _ _ _) (fun e => by injection e with e; omega))⟩
                  case measure => simp [intOf]; omega
                · have hcl : cl' = cl := by have := HCn.out; rw [if_neg hm] at this; omega
                  have hef2 := fun W => (hef W).trans (by rw [decide_eq_false hm])
                  have HMx := Lib.hid (HMe.out hcl)
                  clear hm hef HCn HSm HEq HMe hcl
                  go_wp2
                  go_quiet (fail)
                  go_wp2
                  go_roundw
                  case rel => exact ⟨j + 1, by go_num, by omega, Lib.hid (by have h := HK8.out.drewN (by omega) nq; rw [HMx.out]; exact h), Lib.hid (OwnFr.keep HO8.out (below_drewN (Below.refl _ _) nq)), hs8, Lib.hid (FrAt.keep HX8.out (below_drewN (Below.refl _ _) nq))⟩
                  case measure => simp [intOf]; omega
              · obtain rfl : j = 3 := by omega
                have HKe : Hid (KS X g bb b3 0 all w (100 + 4 * (q + 1)) wr (.slice An L'.length cn) L' (mixB (cntA all L') (cntA all L') 0)) := Lib.hid ((HK8.out.with HO8.out).more (by omega))
                clear HK8 HO8 HSm HEq
                go_wp2
                go_meet
                case rel => exact ⟨L', hL6', HKe, hs8⟩
        · rcases hzi : hasI L (i : Int) with _ | _
          · have hni : ¬ (i : Int) < (L.length : Int) := fun h => by rw [hasI_lt (by omega) hL6] at hzi; cases hzi
            have CD : Hid (Calls Try.prog 17 #[.slice A L.length c, .int .i64 (i : Int)] w6 (DblPost L i w6)) := Lib.hid (devDbl_c A c L i w6 HK6.out.holds)
            unfold DblPost at CD
            rw [(hasI_no hzi).2.2, hzi] at CD
            clear hzi
            go_wp2_with fail
            refine CD.out.mono ?_
            rintro e w7 ⟨u7, rfl, _, hb7⟩
            have HK7 := Lib.hid (HK6.out.call hb7 (by omega))
            have hs7 : bb < w7.heap.size := Nat.lt_of_lt_of_le hs6' hb7.size
            clear hb7 HK6 CD
            have hd : decide ((i : Int) < (L.length : Int)) = false := by simpa using hni
            go_wp2
            exact ⟨⟨L, q + 1, by go_num, by omega, hL6, Lib.hid (HK7.out.more (by omega)), hs7⟩, by simp [intOf]; omega⟩
          · have hni : i < L.length := by have := (hasI_iff.1 hzi).2.2; omega
            have hnii : (i : Int) < (L.length : Int) := by omega
            obtain ⟨bA, oA, rfl, _, _⟩ := holds_frm HK6.out.holds hni
            have CD : Hid (Calls Try.prog 17 #[.slice (some ⟨bA, oA, none⟩) L.length c, .int .i64 (i : Int)] w6 (DblPost L i w6)) := Lib.hid (devDbl_c _ c L i w6 HK6.out.holds)
            obtain ⟨_, _, _, _, hd3⟩ := hasI_at hzi
            unfold DblPost at CD
            rw [hd3, hzi] at CD
            have HSm := Lib.hid (fun j (hj : j < all.length) => cntA_send (L := L) L[i] hj hL6)
            have HSl := Lib.hid (sendL_len L L[i])
            have HEq := Lib.hid (fun j (hj : j < all.length) W => eq_frame all[j] L[i] W)
            have HFi : Hid (∀ (wr : World) (T : Nat) (zs : List Int), KS X g bb b3 0 all w T wr (.slice (some ⟨bA, oA, none⟩) L.length c) L zs → FrmIn wr bA (oA + i * 5) L[i]) := Lib.hid (fun wr T zs h => h.frm hni)
            generalize sendL L L[i] = L' at *
            generalize L[i] = ff at *
            clear hzi hd3
            go_wp2_with fail
            refine CD.out.mono ?_
            rintro e w7 ⟨u7, rfl, hO7, hb7⟩
            have HK8 := Lib.hid (HK6.out.call hb7 (by omega))
            have HO8 := Lib.hid (ownsRow_base hO7 (show bb + 1 ≤ w6.heap.size by omega))
            have hs8 : bb < w7.heap.size := Nat.lt_of_lt_of_le hs6' hb7.size
            obtain ⟨An, cn, rfl, hcn⟩ := own_form HO8.out
            have hL6' := HSl.out
            clear hO7 hb7 HK6 CD HSl
            obtain ⟨dd, hdd⟩ : ∃ dd : Int, dd = (L'.length : Int) - L.length := ⟨_, rfl⟩
            have hwd : IntKind.i64.wrap ((L'.length : Int) - L.length) = dd := by rw [hdd]; exact wrap_inF (by omega)
            rw [← hdd] at HSm
            clear hdd
            go_wp2_with fail
            go_loopw [18] (fun j wr => ∃ n : Nat, j = .int .i64 n ∧ n ≤ 3 ∧ Hid (KS X g bb b3 0 all w (100 + 4 * q + 1 + 1) wr (.slice (some ⟨bA, oA, none⟩) L.length c) L (mixB (cntA all L) (cntA all L') n)) ∧ Hid (OwnFr wr (bb + 1) (.slice An L'.length cn) L') ∧ bb < wr.heap.size) (fun j _ => 3 - (intOf j).toNat)
            case atStart => exact ⟨0, rfl, by omega, HK8, HO8, hs8⟩
            case round =>
              clear HK8 HO8 hs8
              obtain ⟨j, rfl, hj, HK8, HO8, hs8⟩ := hrel
              by_cases hj3 : j < 3
              · have hj3' : j < all.length := by omega
                have hbd1 := cntA_bound (all := all) hL6 j
                have hbd2 := cntA_bound (all := all) hL6' j
                obtain ⟨bc, bf⟩ := HK8.out.cell (mix_get hj3)
                obtain ⟨x0, x1, x2, x3, x4⟩ := HAl.out j hj3' wr HK8.out.all
                obtain ⟨y0, y1, y2, y3, y4⟩ := HFi.out wr _ _ HK8.out
                have HCn := Lib.hid (HSm.out j hj3')
                have hef := fun W => HEq.out j hj3' W
                have HMs := Lib.hid (mix_set (cntA all L) (cntA all L') hj3)
                have HMe := Lib.hid (fun h => mix_same (o := cntA all L) (n := cntA all L') hj3 h)
                generalize cntA all L j = cl at *
                generalize cntA all L' j = cl' at *
                generalize all[j] = fj at *
                obtain ⟨a0, a1, a2, a3, a4⟩ := fj
                obtain ⟨d0, d1, d2, d3, d4⟩ := ff
                dsimp only at x0 x1 x2 x3 x4 y0 y1 y2 y3 y4
                have hgd := guard_frame
                by_cases hm : (⟨a0, a1, a2, a3, a4⟩ : FrD) = ⟨d0, d1, d2, d3, d4⟩
                · have hcl : cl' = cl + dd := by have := HCn.out; rwa [if_pos hm] at this
                  have hwc : IntKind.i64.wrap (cl + dd) = cl' := by rw [← hcl]; exact wrap_inF (by omega)
                  have hef2 := fun W => (hef W).trans (by rw [decide_eq_true hm])
                  clear hm hef HCn HSm HEq HMe hcl
                  go_wp2
                  go_quiet (fail)
                  go_wp2
                  go_roundw
                  case rel => exact ⟨j + 1, by go_num, by omega, Lib.hid (by have h := (HK8.out.drewN (by omega) nq).put j cl' hXg hb3 hb3s (by show X ≤ wr.heap.size; omega); rw [HMs.out] at h; exact h), Lib.hid (own_putF (OwnFr.keep HO8.out (below_drewN (Below.refl _ _) nq)) (by omega)), by simp [World.setCell]; omega⟩
                  case measure => simp [intOf]; omega
                · have hcl : cl' = cl := by have := HCn.out; rw [if_neg hm] at this; omega
                  have hef2 := fun W => (hef W).trans (by rw [decide_eq_false hm])
                  have HMx := Lib.hid (HMe.out hcl)
                  clear hm hef HCn HSm HEq HMe hcl
                  go_wp2
                  go_quiet (fail)
                  go_wp2
                  go_roundw
                  case rel => exact ⟨j + 1, by go_num, by omega, Lib.hid (by have h := HK8.out.drewN (by omega) nq; rw [HMx.out]; exact h), Lib.hid (OwnFr.keep HO8.out (below_drewN (Below.refl _ _) nq)), hs8⟩
                  case measure => simp [intOf]; omega
              · obtain rfl : j = 3 := by omega
                have HKe : Hid (KS X g bb b3 0 all w (100 + 4 * (q + 1)) wr (.slice An L'.length cn) L' (mixB (cntA all L') (cntA all L') 0)) := Lib.hid ((HK8.out.with HO8.out).more (by omega))
                clear HK8 HO8 HSm HEq
                go_wp2
                go_meet
                case rel => exact ⟨L', hL6', HKe, hs8⟩
      case rest =>
        clear hK1 K1 HK6 hs6'
        obtain ⟨L2, hL2, HK2, hs2⟩ := hcut
        obtain ⟨A2, c2, rfl, hc2⟩ := own_form HK2.out.own
        have hLn : ¬ 6 < L2.length := by omega
        go_wp2_with fail
        go_loopw [19] (fun j wr => ∃ n : Nat, j = .int .i64 n ∧ n ≤ 3 ∧ Hid (KS X g bb b3 0 all w (100 + 4 * (q + 1)) wr (.slice A2 L2.length c2) L2 (mixB (cntA all L2) (cntA all L2) 0)) ∧ bb < wr.heap.size) (fun j _ => 3 - (intOf j).toNat)
        case atStart => exact ⟨0, rfl, by omega, HK2, hs2⟩
        case round =>
          clear HK2 hs2
          obtain ⟨j, rfl, hj, HK2, hs2⟩ := hrel
          by_cases hj3 : j < 3
          · have hj3' : j < all.length := by omega
            have hmg : (mixB (cntA all L2) (cntA all L2) 0)[j]? = some (cntA all L2 j) := by
              have : j = 0 ∨ j = 1 ∨ j = 2 := by omega
              rcases this with rfl | rfl | rfl <;> rfl
            rw [cntA_lt hj3'] at hmg
            have HS : Hid (∀ W, Below wr.heap.size wr W → FrmIn W b3 (j * 5) all[j] ∧ W.cell? ⟨bb, j, none⟩ = some (Iv (cntF L2 all[j] : Int))) := Lib.hid (fun W hW => ⟨HAl.out j hj3' W ((HK2.out.call hW (by omega)).all), ((HK2.out.call hW (by omega)).cell hmg).1⟩)
            have CC := Lib.hid (fun W (hW : Below wr.heap.size wr W) => count_c A2 c2 L2.length L2 rfl all[j] W ((HK2.out.call hW (by omega)).holds) (by omega))
            have hbw : Below wr.heap.size wr wr := Below.refl _ _
            clear hmg
            generalize cntF L2 all[j] = cv at *
            generalize all[j] = fj at *
            obtain ⟨a0, a1, a2, a3, a4⟩ := fj
            have hne : ((cv : Int) != (cv : Int)) = false := by simp
            have hne2 : (cv != cv) = false := by simp
            go_wp2_with fail
            go_cut [164] from 150 to 164 (fun p wx => p = .bool false ∧ Hid (Below wr.heap.size wr wx))
            case first =>
              go_region_held3 (fun W => (W.cell? ⟨b3, j * 5, none⟩ = some (.int .i64 a0) ∧ W.cell? ⟨b3, j * 5 + 1, none⟩ = some (.int .i64 a1) ∧ W.cell? ⟨b3, j * 5 + 2, none⟩ = some (.int .u64 a2) ∧ W.cell? ⟨b3, j * 5 + 3, none⟩ = some (.int .i64 a3) ∧ W.cell? ⟨b3, j * 5 + 4, none⟩ = some (.int .i64 a4)) ∧ W.cell? ⟨bb, j, none⟩ = some (Iv (cv : Int))) (first | exact HS.out _ (by repeat (first | assumption | (with_reducible exact Below.refl _ _) | (with_reducible refine Below.drew ?_)))) (first | (go_at_call 19; (with_reducible refine (CC.out _ (by repeat (first | assumption | (with_reducible exact Below.refl _ _) | (with_reducible refine Below.drew ?_)))).mono ?_); rintro e wA ⟨rfl, hbA⟩; have hbA2 : Below wr.heap.size wr wA := below_later (by repeat (first | assumption | (with_reducible exact Below.refl _ _) | (with_reducible refine Below.drew ?_))) hbA))
              all_goals
                go_wp2_with fail
                go_meet
                case rel => exact ⟨rfl, Lib.hid (by repeat (first | assumption | (with_reducible exact Below.refl _ _) | (with_reducible refine Below.drew ?_)))⟩
            case rest =>
              obtain ⟨rfl, HWc⟩ := hcut
              have HKc := Lib.hid (HK2.out.call HWc.out (by omega))
              have hsc : bb < wc.heap.size := Nat.lt_of_lt_of_le hs2 HWc.out.size
              clear HK2 HS CC HWc hbw hs2
              go_wp2
              go_roundw
              case rel => exact ⟨j + 1, by go_num, by omega, HKc, hsc⟩
              case measure => simp [intOf]; omega
          · obtain rfl : j = 3 := by omega
            go_wp2
            go_roundw
            case rel => exact ⟨L2, q + 1, by go_num, by omega, hL2, HK2, hs2⟩
            case measure => simp [intOf]; omega
    · obtain rfl : q = 30 := by omega
      go_wp2
      go_ret
      exact ⟨rfl, by rw [HXe.out]; exact HK.out.below⟩
end Go.Proofs.Ytckknakpmaagnaa
