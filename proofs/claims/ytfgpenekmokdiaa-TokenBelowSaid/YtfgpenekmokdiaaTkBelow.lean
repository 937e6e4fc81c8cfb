/- TokenBelow returns true, if the functions keep what TkBase asks. -/
import Derived.Test.YtfgpenekmokdiaaMzAI
namespace Go.Proofs.Ytfgpenekmokdiaa
open Go Go.RowKit Fl

theorem rows_of {w : World} {base c : Nat} {A : Option Addr} {g : GraphD} (h : RowsOwn w base (.slice A g.length c) g) : RowsAt w A g := by
  obtain ⟨A2, c2, h1, h2⟩ := h.at_
  injection h1 with h1
  subst h1
  exact h2
set_option maxRecDepth 100000 in
set_option maxHeartbeats 8000000 in
theorem tokenBelow_c (hK : DevKnown12) (hG : DevGirth) (hF : DevFreeT) (hS : DevStuckT) (C : Option Addr) (k : Nat) (zs : List Int) (w : World) (hz : IntsAt w w.heap.size C zs) (hzl : zs.length ≤ maxLen) :
    Calls Try.prog 5 #[.slice C zs.length k] w fun e w' => e = .returned (.bool true) ∧ Below w.heap.size w w' := by
  have CK := Lib.hid (hK w)
  have HZ := Lib.hid hz
  have HL := Lib.hid hzl
  have HG := Lib.hid hG
  have hF := Lib.hid hF
  have hS := Lib.hid hS
  clear hK hz hzl hG
  go_enter Try.func5, Try.ntmps5
  go_wp2_with fail
  refine CK.out.mono ?_
  rintro e w1 ⟨rfl, hb1⟩
  have ht := tape_new (c := k) HZ.out (Nat.le_refl _) hb1 HL.out
  have hb2 : Below w.heap.size w (w1.alloc (.cells #[.slice C zs.length k, .int .i64 0] 27)) := hb1.alloc hb1.size _
  have HT2 := Lib.hid ht
  have hgB : w.heap.size ≤ w1.heap.size := hb1.size
  have HB2 := Lib.hid hb2
  have hsz2 : w1.heap.size < (w1.alloc (.cells #[.slice C zs.length k, .int .i64 0] 27)).heap.size := by simp
  clear hb1 ht hb2 CK HZ HL
  go_wp2_with fail
  refine (graph_c w.heap.size w1.heap.size _ 10 _ HT2.out (by omega) (by omega) hsz2).mono ?_
  rintro e w3 ⟨gv, g, rfl, hgl, hok, hown3, ht3, hst3⟩
  obtain ⟨A, c, rfl, _⟩ := hown3.at_
  have HV := Lib.hid (hok.valid (by omega))
  have HT3 := Lib.hid ht3
  have HO3 := Lib.hid hown3
  have HB3 := Lib.hid (HB2.out.trans (hst3.below HB2.out.size hgB))
  have hsz3 := Nat.lt_of_lt_of_le hsz2 hst3.size
  generalize w1.alloc (.cells #[.slice C zs.length k, .int .i64 0] 27) = w2 at *
  generalize w1.heap.size = gt at *
  clear hok ht3 hown3 hst3 HT2 HB2
  have hlow : gt < w2.heap.size := hsz2
  go_wp2_with (refine make_any _ rfl _ _ 50 4 (.bool false) 1 Try.underlying50 Try.infoBoolS rfl (by decide) rfl .i64 .i64 _ _ g.length rfl rfl rfl rfl (by omega) ?_)
  intro wM ownM hbM
  have HRM : Hid (RowsAt wM A g) := Lib.hid (rows_of (HO3.out.keep hbM))
  have HSM : Hid (Holds wM (some ⟨w3.heap.size, 0, none⟩) ((opensT g.length).map Bo)) := Lib.hid (by
    obtain ⟨A2, c2, h1, h2⟩ := own_is ownM
    injection h1 with h1
    subst h1
    unfold opensT
    rw [List.map_replicate]
    exact h2)
  have HBM := Lib.hid hbM
  clear ownM hbM
  go_wp2_with fail
  refine (girth_ok HG.out HRM.out HSM.out HV.out rfl (opens_len _)).mono ?_
  rintro e w4 ⟨X, cx, hcx, rfl, hx4, hb4⟩
  have HX4 := Lib.hid hx4
  have hbMi : Below w3.heap.size w3 w4 := HBM.out.trans (hb4.mono HBM.out.size)
  have HM4 := Lib.hid hbMi
  clear hbMi hb4 hx4 HRM HSM HBM
  have HO4 := Lib.hid (HO3.out.keep HM4.out)
  have HT4 := Lib.hid (HT3.out.keep HM4.out)
  have HB4 := Lib.hid (HB3.out.trans (HM4.out.mono HB3.out.size))
  have hsz4 : gt < w4.heap.size := Nat.lt_of_lt_of_le hsz3 HM4.out.size
  clear HO3 HT3 HB3 HM4 HX4
  go_wp2_with fail
  refine (position_any w.heap.size gt _ 9 _ A c g w4 HT4.out (by omega) (by omega) hsz4 HV.out (by omega) HO4.out hlow).mono ?_
  rintro e w5 ⟨v1, v2, ts, ws, rfl, hrows, hpos, hts, ht5, hst5⟩
  obtain ⟨A1, c1, rfl, hc1, hh1⟩ := own_cap hrows.one
  obtain ⟨A2, c2, rfl, hc2, hh2⟩ := own_cap hrows.two
  have H1 := Lib.hid hh1
  have H2 := Lib.hid hh2
  have HP := Lib.hid hpos
  have HR5 := Lib.hid (rows_of (HO4.out.but hst5.asGrown hlow))
  have HB5 := Lib.hid (HB4.out.trans (hst5.below HB4.out.size hgB))
  have hts9 : ts.length ≤ 9 := hts
  have hws9 : ws.length ≤ 9 := by have := hpos.len; omega
  clear hrows hpos hts ht5 hst5 hh1 hh2 HO4 HT4 HB4
  generalize hgl0 : (girF g (opensT g.length)).length = n at *
  have HN := Lib.hid hgl0
  clear hgl0
  go_wp2
  go_loop [10] (fun i => ∃ j : Nat, i = .int .i64 j ∧ j ≤ ws.length ∧ Hid (∀ q (h : q < ws.length), q < j → 0 ≤ ws[q])) (fun i => ws.length - (intOf i).toNat)
  case atStart => exact ⟨0, rfl, Nat.zero_le _, Lib.hid (fun q _ h => by omega)⟩
  case round =>
    obtain ⟨j, rfl, hj, HJ⟩ := hrel
    by_cases hlt : j < ws.length
    · obtain ⟨b2, o2, rfl, e2⟩ := H2.out.iv hlt
      by_cases hy : ws[j] < 0
      · clear HJ
        generalize ws[j] = y at *
        go_wp2
        go_ret
        exact ⟨rfl, HB5.out⟩
      · have HJ2 : Hid (∀ q (h : q < ws.length), q < j + 1 → 0 ≤ ws[q]) := Lib.hid (fun q h hq => by
          rcases Nat.lt_succ_iff_lt_or_eq.1 hq with h3 | rfl
          · exact HJ.out q h h3
          · omega)
        clear HJ
        generalize ws[j] = y at *
        go_wp2
        go_round
        case rel => exact ⟨j + 1, by go_num, by omega, HJ2⟩
        case measure => simp [intOf]; omega
    · have HW : Hid (∀ q (h : q < ws.length), 0 ≤ ws[q]) := Lib.hid (fun q h => HJ.out q h (by omega))
      clear HJ
      by_cases h0 : ts.length = 0
      · obtain rfl : ts = [] := List.eq_nil_of_length_eq_zero h0
        clear h0
        go_wp2
        go_ret
        exact ⟨rfl, HB5.out⟩
      · have hz : ((ts.length : Int) == 0) = false := by rw [beq_eq_false_iff_ne]; omega
        have hz2 : ¬ ts.length = 0 := h0
        by_cases hn : 0 < n ∧ n ≤ ts.length
        · obtain ⟨hn1, hn2⟩ := hn
          go_wp2
          go_ret
          exact ⟨rfl, HB5.out⟩
        · have HF := Lib.hid (free_below HP.out (opens_open g.length) HW.out (by omega) (by rw [HN.out]; omega))
          have CF := Lib.hid (hF.out A A1 A2 c c1 c2 g ts ws w5 HR5.out H1.out H2.out HP.out hc1 hc2)
          have HFl := Lib.hid (freeL_len ts ws ts.length)
          have HSt : Hid (stuckB g ts ws = false) := Lib.hid (by
            unfold stuckB
            rw [decide_eq_false (fun h => HF.out (List.eq_nil_of_length_eq_zero h)), Bool.and_false, Bool.false_and])
          have hfp : 0 < (freeL ts ws ts.length).length := List.length_pos_iff.2 HF.out
          clear HF HW
          generalize freeL ts ws ts.length = fr at *
          have hn3 : ¬ (0 < n) ∨ ¬ (n ≤ ts.length) := by omega
          rcases hn3 with hn3 | hn3
          all_goals
            go_wp2_with fail
            refine CF.out.mono ?_
            rintro e w6 ⟨⟨u, rfl, hu⟩, hb6⟩
            obtain ⟨A6, c6, rfl, _⟩ := own_is hu
            have HB6 := Lib.hid (HB5.out.trans (hb6.mono HB5.out.size))
            have CS := Lib.hid (hS.out A A1 A2 c c1 c2 g ts ws w6 (HR5.out.keep hb6) (H1.out.keep hb6) (H2.out.keep hb6) HP.out hc1 hc2)
            rw [HSt.out] at CS
            clear hu hb6
            generalize fr.length = fl at *
            go_wp2_with fail
            refine CS.out.mono ?_
            rintro e w7 ⟨rfl, hb7⟩
            have HB7 := Lib.hid (HB6.out.trans (hb7.mono HB6.out.size))
            clear hb7
            go_wp2
            go_ret
            exact ⟨rfl, HB7.out⟩
end Go.Proofs.Ytfgpenekmokdiaa
