/- TokenReached returns true, if the functions keep what TkBase and TkBase2 ask. -/
import Derived.Test.YtfgpenekmokdiaaMzAM
namespace Go.Proofs.Ytfgpenekmokdiaa
open Go Go.RowKit Fl

theorem rows_of {w : World} {base c : Nat} {A : Option Addr} {g : GraphD} (h : RowsOwn w base (.slice A g.length c) g) : RowsAt w A g := by
  obtain ⟨A2, c2, h1, h2⟩ := h.at_
  injection h1 with h1
  subst h1
  exact h2
theorem own_isM {w : World} {base n : Nat} {e : TypeId} {v : Value} {xs : List Value} (h : w.ownsRow base e 3 v n xs) : ∃ A c, v = .slice A n c ∧ Holds w A xs := by
  obtain ⟨h1, h2⟩ := h
  rcases h2 with ⟨hv, h0⟩ | ⟨g, cap, cur, hv, hb, hg, hnc, hcm, hsz, htk⟩
  · subst h0
    exact ⟨none, 0, hv, .inl (List.eq_nil_of_length_eq_zero (by omega))⟩
  · refine ⟨some ⟨g, 0, none⟩, cap, hv, .inr ⟨g, 0, rfl, block_lt hg, fun j hj => ?_⟩⟩
    rw [cell_of_row w g _ _ _ _ hg, Nat.zero_add, ← Array.getElem?_toList]
    rw [← List.getElem?_eq_getElem hj]
    have h3 : (cur.toList.take (n * 3))[j]? = xs[j]? := by rw [htk]
    rw [List.getElem?_take, if_pos (by omega)] at h3
    exact h3
set_option maxRecDepth 100000 in
set_option maxHeartbeats 8000000 in
theorem tokenReached_c (hK : DevKnown12) (hG : DevGirth) (hFr : DevFrom) (hF : DevFillT) (hRp : DevReplayT) (C : Option Addr) (k : Nat) (zs : List Int) (w : World) (hz : IntsAt w w.heap.size C zs) (hzl : zs.length ≤ maxLen) :
    Calls Try.prog 7 #[.slice C zs.length k] w fun e w' => e = .returned (.bool true) ∧ Below w.heap.size w w' := by
  have CK := Lib.hid (hK w)
  have HZ := Lib.hid hz
  have HL := Lib.hid hzl
  have HG := Lib.hid hG
  have HFr := Lib.hid hFr
  have hF := Lib.hid hF
  have hRp := Lib.hid hRp
  clear hK hz hzl hG hFr
  go_enter Try.func7, Try.ntmps7
  go_wp2_with fail
  refine CK.out.mono ?_
  rintro e w1 ⟨rfl, hb1⟩
  have ht := tape_new (c := k) HZ.out (Nat.le_refl _) hb1 HL.out
  have hb2 : Below w.heap.size w (w1.alloc (.cells #[.slice C zs.length k, .int .i64 0] 27)) := hb1.alloc hb1.size _
  have HT2 := Lib.hid ht
  have hgB : w.heap.size ≤ w1.heap.size := hb1.size
  have HB2 := Lib.hid hb2
  have hsz2 : w1.heap.size < (w1.alloc (.cells #[.slice C zs.length k, .int .i64 0] 27)).heap.size := by simp
  clear hb1 ht hb2 CK HZ HL
  go_wp2_with fail
  refine (graph_c w.heap.size w1.heap.size _ 10 _ HT2.out (by omega) (by omega) hsz2).mono ?_
  rintro e w3 ⟨gv, g, rfl, hgl, hok, hown3, ht3, hst3⟩
  obtain ⟨A, c, rfl, _⟩ := hown3.at_
  have HV := Lib.hid (hok.valid (by omega))
  have HT3 := Lib.hid ht3
  have HO3 := Lib.hid hown3
  have HB3 := Lib.hid (HB2.out.trans (hst3.below HB2.out.size hgB))
  have hsz3 := Nat.lt_of_lt_of_le hsz2 hst3.size
  generalize w1.alloc (.cells #[.slice C zs.length k, .int .i64 0] 27) = w2 at *
  generalize w1.heap.size = gt at *
  clear hok ht3 hown3 hst3 HT2 HB2
  by_cases h0 : g.length = 0
  · obtain rfl : g = [] := List.eq_nil_of_length_eq_zero h0
    clear h0
    go_wp2
    go_ret
    exact ⟨rfl, HB3.out⟩
  · have h0i : ((g.length : Int) == 0) = false := by rw [beq_eq_false_iff_ne]; omega
    have hl1 : 1 ≤ g.length := by omega
    go_wp2_with fail
    refine (next_c w.heap.size gt _ g.length w3 HT3.out (by omega) (by omega) (by omega)).mono ?_
    rintro e w4 ⟨v, hv', rfl, ht4, hg4⟩
    have hv : v < g.length := by omega
    have HO4 := Lib.hid (HO3.out.but hg4 (Nat.lt_of_lt_of_le hsz2 (Nat.le_refl _)))
    have HB4 := Lib.hid (HB3.out.grown hg4 HB3.out.size (fun q hq => by injection hq with hq; omega))
    clear HT3 HO3 HB3 ht4 hg4 hv' h0 h0i
    go_wp2_with (refine make_any _ rfl _ _ 50 4 (.bool false) 1 Try.underlying50 Try.infoBoolS rfl (by decide) rfl .i64 .i64 _ _ g.length rfl rfl rfl rfl (by omega) ?_)
    intro wM ownM hbM
    have HRM : Hid (RowsAt wM A g) := Lib.hid (rows_of (HO4.out.keep hbM))
    have HSM : Hid (Holds wM (some ⟨w4.heap.size, 0, none⟩) ((opensT g.length).map Bo)) := Lib.hid (by
      obtain ⟨A2, c2, h1, h2⟩ := own_is ownM
      injection h1 with h1
      subst h1
      unfold opensT
      rw [List.map_replicate]
      exact h2)
    have HBM := Lib.hid hbM
    clear ownM hbM
    go_wp2_with fail
    refine (girth_ok HG.out HRM.out HSM.out HV.out rfl (opens_len _)).mono ?_
    rintro e w6 ⟨X, cx, hcx, rfl, hx6, hb6⟩
    have hbx6 := HBM.out.trans (hb6.mono HBM.out.size)
    have HO6 := Lib.hid (HO4.out.keep hbx6)
    have HB6 := Lib.hid (HB4.out.trans (hbx6.mono HB4.out.size))
    have HX6 := Lib.hid hx6
    clear hx6 hb6 hbx6 HRM HSM HBM HO4 HB4
    go_wp2_with (refine make_any _ rfl _ _ 50 4 (.bool false) 1 Try.underlying50 Try.infoBoolS rfl (by decide) rfl .i64 .i64 _ _ g.length rfl rfl rfl rfl (by omega) ?_)
    intro wK ownK hbK
    have HRK : Hid (RowsAt wK A g) := Lib.hid (rows_of (HO6.out.keep hbK))
    have HSK : Hid (Holds wK (some ⟨w6.heap.size, 0, none⟩) ((opensT g.length).map Bo)) := Lib.hid (by
      obtain ⟨A2, c2, h1, h2⟩ := own_is ownK
      injection h1 with h1
      subst h1
      unfold opensT
      rw [List.map_replicate]
      exact h2)
    have HBK := Lib.hid hbK
    clear ownK hbK
    go_wp2_with fail
    refine (from_ok HFr.out HRK.out HSK.out HV.out rfl (opens_len _) hv).mono ?_
    rintro e w8 ⟨Y, cy, rfl, hy8, hb8⟩
    have hbx8 := HBK.out.trans (hb8.mono HBK.out.size)
    have HO8 := Lib.hid (HO6.out.keep hbx8)
    have HX8 := Lib.hid (HX6.out.keep hbx8)
    have HB8 := Lib.hid (HB6.out.trans (hbx8.mono HB6.out.size))
    have HY8 := Lib.hid hy8
    clear hy8 hb8 hbx8 HRK HSK HBK HO6 HB6 HX6
    have HAll : Hid ((nearP g v < 0 ∧ ∀ x ∈ girF g (opensT g.length), atB (reachL g (opensT g.length) v) x.toNat = false) ∨ (0 ≤ nearP g v ∧ nearP g v < (girF g (opensT g.length)).length ∧ (∃ x ∈ girF g (opensT g.length), atB (reachL g (opensT g.length) v) x.toNat = true) ∧ ∃ ts, playL g [] (fillM g v) = some ts ∧ ts.length = (girF g (opensT g.length)).length ∧ ∀ x ∈ ts, x ∈ girF g (opensT g.length))) := Lib.hid (fill_all HV.out hv)
    have HOk : Hid (∀ x ∈ girF g (opensT g.length), 0 ≤ x ∧ x < g.length) := Lib.hid (fun x hx => by
      have hw : girF g (opensT g.length) ≠ [] := fun h => by rw [h] at hx; cases hx
      have := (gir_closed HV.out hw).walk.ok x hx
      exact ⟨this.1, this.2.1⟩)
    have hrl : (reachL g (opensT g.length) v).length = g.length := reachL_length _ _ _
    have HRL := Lib.hid hrl
    have CF := Lib.hid (hF.out A c v g w8 (rows_of HO8.out) HV.out hv)
    have HML : Hid (0 ≤ nearP g v → nearP g v < (girF g (opensT g.length)).length → (fillM g v).length ≤ 1200) := Lib.hid (fun a b => fillM_len HV.out a b)
    have hfew := gir_few (sh := opensT g.length) HV.out
    clear hrl
    generalize girF g (opensT g.length) = W at *
    generalize reachL g (opensT g.length) v = R at *
    generalize fillM g v = F at *
    have HLoop : Hid (∀ w9, Below w8.heap.size w8 w9 → Holds w9 X (W.map Iv) ∧ Holds w9 Y (R.map Bo) ∧ Below w.heap.size w w9) := Lib.hid (fun w9 h9 => ⟨HX8.out.keep h9, HY8.out.keep h9, HB8.out.trans (h9.mono HB8.out.size)⟩)
    rcases HAll.out with ⟨hn1, hn2⟩ | ⟨hn1, hn2, hn3, ts, ht1, ht2, ht3⟩
    · have CU := Lib.hid (CF.out.1 hn1)
      have HNo := Lib.hid hn2
      clear CF HAll HML hn1 hn2
      go_wp2_with fail
      refine CU.out.mono ?_
      rintro e w9 ⟨rfl, hb9⟩
      obtain ⟨x9, y9, b9⟩ := HLoop.out w9 hb9
      have HX9 := Lib.hid x9
      have HY9 := Lib.hid y9
      have HB9 := Lib.hid b9
      clear x9 y9 b9 hb9 CU HLoop HX8 HY8 HB8 HO8
      go_wp2
      go_loop [13, 14] (fun h i => ∃ j : Nat, i = .int .i64 j ∧ j ≤ W.length ∧ h = .bool false) (fun _ i => W.length - (intOf i).toNat)
      case atStart => exact ⟨0, rfl, Nat.zero_le _, rfl⟩
      case round =>
        obtain ⟨j, rfl, hj, rfl⟩ := hrel
        by_cases hlt : j < W.length
        · obtain ⟨q1, q2⟩ := HOk.out _ (List.getElem_mem hlt)
          have hno := HNo.out _ (List.getElem_mem hlt)
          obtain ⟨bx, ox, rfl, ex⟩ := HX9.out.iv hlt
          generalize W[j] = x at *
          obtain ⟨xn, rfl⟩ := Int.eq_ofNat_of_zero_le q1
          have hxn : xn < R.length := by rw [HRL.out]; omega
          rw [Int.toNat_natCast] at hno
          obtain ⟨by_, oy, rfl, ey⟩ := HY9.out.bo hxn
          have hR : R[xn] = false := by
            have : atB R xn = R[xn] := by unfold atB; rw [List.getD_eq_getElem?_getD, List.getElem?_eq_getElem hxn]; rfl
            rw [← this]; exact hno
          rw [hR] at ey
          clear hR hno
          go_wp2
          go_round
          case rel => exact ⟨j + 1, by go_num, by omega, rfl⟩
          case measure => simp [intOf]; omega
        · obtain rfl : j = W.length := by omega
          go_wp2
          go_ret
          exact ⟨rfl, HB9.out⟩
    · have CU := Lib.hid (CF.out.2 hn1)
      have hm1200 := HML.out hn1 hn2
      have HYes := Lib.hid hn3
      have HPl := Lib.hid ht1
      have HTl := Lib.hid ht2
      have HTm := Lib.hid ht3
      clear CF HAll HML hn1 hn2 hn3 ht1 ht2 ht3
      go_wp2_with fail
      refine CU.out.mono ?_
      rintro e w9 ⟨⟨u, rfl, hu⟩, hb9⟩
      obtain ⟨AF, cF, rfl, hhF⟩ := own_isM hu
      have HF9 := Lib.hid hhF
      obtain ⟨x9, y9, b9⟩ := HLoop.out w9 hb9
      have HX9 := Lib.hid x9
      have HY9 := Lib.hid y9
      have HB9 := Lib.hid b9
      have CRp := Lib.hid (hRp.out A AF c cF g F ts w9 (rows_of (HO8.out.keep hb9)) HV.out hhF hm1200 HPl.out)
      clear x9 y9 b9 hb9 CU HLoop HX8 HY8 HB8 HO8 hu hhF
      go_wp2
      go_loop [13, 14] (fun h i => ∃ (j : Nat) (hv : Bool), i = .int .i64 j ∧ j ≤ W.length ∧ h = .bool hv ∧ Hid (hv = (W.take j).any (fun x => atB R x.toNat))) (fun _ i => W.length - (intOf i).toNat)
      case atStart => exact ⟨0, false, rfl, Nat.zero_le _, rfl, Lib.hid rfl⟩
      case round =>
        obtain ⟨j, hv, rfl, hj, rfl, HH⟩ := hrel
        by_cases hlt : j < W.length
        · obtain ⟨q1, q2⟩ := HOk.out _ (List.getElem_mem hlt)
          have HS : Hid ((W.take (j + 1)).any (fun x => atB R x.toNat) = ((W.take j).any (fun x => atB R x.toNat) || atB R W[j].toNat)) := Lib.hid (by rw [List.take_succ_eq_append_getElem hlt, List.any_append]; simp)
          obtain ⟨bx, ox, rfl, ex⟩ := HX9.out.iv hlt
          generalize W[j] = x at *
          obtain ⟨xn, rfl⟩ := Int.eq_ofNat_of_zero_le q1
          have hxn : xn < R.length := by rw [HRL.out]; omega
          rw [Int.toNat_natCast] at HS
          obtain ⟨by_, oy, rfl, ey⟩ := HY9.out.bo hxn
          have hR : atB R xn = R[xn] := by unfold atB; rw [List.getD_eq_getElem?_getD, List.getElem?_eq_getElem hxn]; rfl
          rw [hR] at HS
          clear hR
          generalize R[xn] = y at *
          rcases hv with _ | _
          · have HH2 : Hid (y = (W.take (j + 1)).any (fun x => atB R x.toNat)) := Lib.hid (by rw [HS.out, ← HH.out, Bool.false_or])
            clear HS HH
            go_wp2
            go_round
            case rel => exact ⟨j + 1, y, by go_num, by omega, rfl, HH2⟩
            case measure => simp [intOf]; omega
          · have HH2 : Hid (true = (W.take (j + 1)).any (fun x => atB R x.toNat)) := Lib.hid (by rw [HS.out, ← HH.out, Bool.true_or])
            clear HS HH
            go_wp2
            go_round
            case rel => exact ⟨j + 1, true, by go_num, by omega, rfl, HH2⟩
            case measure => simp [intOf]; omega
        · obtain rfl : j = W.length := by omega
          obtain rfl : hv = true := by
            obtain ⟨x, hx, hx2⟩ := HYes.out
            rw [HH.out, List.take_length, List.any_eq_true]
            exact ⟨x, hx, hx2⟩
          clear HH
          go_wp2_with fail
          refine CRp.out.mono ?_
          rintro e w10 ⟨⟨u, rfl, hu⟩, hb10⟩
          obtain ⟨AT, cT, rfl, hhT⟩ := own_is hu
          have HT10 := Lib.hid hhT
          have HX10 := Lib.hid (HX9.out.keep hb10)
          have HB10 := Lib.hid (HB9.out.trans (hb10.mono HB9.out.size))
          clear hu hhT hb10 CRp HX9 HY9 HB9
          have hne : ((ts.length : Int) != (W.length : Int)) = false := by rw [HTl.out]; simp
          have htw : ts.length ≤ W.length ∧ W.length ≤ ts.length := by rw [HTl.out]; omega
          go_wp2
          clear hne
          go_loopw [17] (fun i wr => ∃ j : Nat, i = .int .i64 j ∧ j ≤ W.length ∧ wr = w10) (fun i _ => W.length - (intOf i).toNat)
          case atStart => exact ⟨0, rfl, Nat.zero_le _, rfl⟩
          case round =>
            obtain ⟨j, rfl, hj, rfl⟩ := hrel
            by_cases hlt : j < W.length
            · have hjt : j < ts.length := by omega
              have hm := HTm.out _ (List.getElem_mem hjt)
              obtain ⟨bt, ot, rfl, et⟩ := HT10.out.iv hjt
              have CH := Lib.hid (has_c X cx W ts[j] wr HX10.out (by omega))
              rw [decide_eq_true hm] at CH
              clear hm
              generalize ts[j] = x at *
              go_wp2_with fail
              refine CH.out.mono ?_
              rintro e w11 ⟨rfl, rfl⟩
              go_wp2
              go_roundw
              case rel => exact ⟨j + 1, by go_num, by omega, by first | rfl | trivial⟩
              case measure => simp [intOf]; omega
            · go_wp2
              go_ret
              exact ⟨rfl, HB10.out⟩
end Go.Proofs.Ytfgpenekmokdiaa
