/- TokenRings returns true, if the functions keep what TkBase asks. -/
import Derived.Test.YtfgpenekmokdiaaMzAI
namespace Go.Proofs.Ytfgpenekmokdiaa
open Go Go.RowKit Fl

theorem rows_of {w : World} {base c : Nat} {A : Option Addr} {g : GraphD} (h : RowsOwn w base (.slice A g.length c) g) : RowsAt w A g := by
  obtain ⟨A2, c2, h1, h2⟩ := h.at_
  injection h1 with h1
  subst h1
  exact h2
set_option maxRecDepth 100000 in
set_option maxHeartbeats 8000000 in
theorem tokenRings_c (hK : DevKnown12) (hG : DevGirth) (hS : DevStuckT) (hR : DevRingT) (C : Option Addr) (k : Nat) (zs : List Int) (w : World) (hz : IntsAt w w.heap.size C zs) (hzl : zs.length ≤ maxLen) :
    Calls Try.prog 8 #[.slice C zs.length k] w fun e w' => e = .returned (.bool true) ∧ Below w.heap.size w w' := by
  have CK := Lib.hid (hK w)
  have HZ := Lib.hid hz
  have HL := Lib.hid hzl
  have HG := Lib.hid hG
  have hS := Lib.hid hS
  have hR := Lib.hid hR
  clear hK hz hzl hG
  go_enter Try.func8, Try.ntmps8
  go_wp2_with fail
  refine CK.out.mono ?_
  rintro e w1 ⟨rfl, hb1⟩
  have ht := tape_new (c := k) HZ.out (Nat.le_refl _) hb1 HL.out
  have hb2 : Below w.heap.size w (w1.alloc (.cells #[.slice C zs.length k, .int .i64 0] 27)) := hb1.alloc hb1.size _
  have HT2 := Lib.hid ht
  have hgB : w.heap.size ≤ w1.heap.size := hb1.size
  have HB2 := Lib.hid hb2
  have hsz2 : w1.heap.size < (w1.alloc (.cells #[.slice C zs.length k, .int .i64 0] 27)).heap.size := by simp
  clear hb1 ht hb2 CK HZ HL
  go_wp2_with fail
  refine (graph_c w.heap.size w1.heap.size _ 7 _ HT2.out (by omega) (by omega) hsz2).mono ?_
  rintro e w3 ⟨gv, g, rfl, hgl, hok, hown3, ht3, hst3⟩
  obtain ⟨A, c, rfl, _⟩ := hown3.at_
  have HV := Lib.hid (hok.valid (by omega))
  have HT3 := Lib.hid ht3
  have HO3 := Lib.hid hown3
  have HB3 := Lib.hid (HB2.out.trans (hst3.below HB2.out.size hgB))
  have hsz3 := Nat.lt_of_lt_of_le hsz2 hst3.size
  generalize w1.alloc (.cells #[.slice C zs.length k, .int .i64 0] 27) = w2 at *
  generalize w1.heap.size = gt at *
  clear hok ht3 hown3 hst3 HT2 HB2
  have hlow : gt < w2.heap.size := hsz2
  go_wp2_with fail
  refine (position_any w.heap.size gt _ 9 _ A c g w3 HT3.out (by omega) (by omega) hsz3 HV.out (by omega) HO3.out hlow).mono ?_
  rintro e w5 ⟨v1, v2, ts, ws, rfl, hrows, hpos, hts, ht5, hst5⟩
  obtain ⟨A1, c1, rfl, hc1, hh1⟩ := own_cap hrows.one
  obtain ⟨A2, c2, rfl, hc2, hh2⟩ := own_cap hrows.two
  have H1 := Lib.hid hh1
  have H2 := Lib.hid hh2
  have HP := Lib.hid hpos
  have HO5 := Lib.hid (HO3.out.but hst5.asGrown hlow)
  have HB5 := Lib.hid (HB3.out.trans (hst5.below HB3.out.size hgB))
  have hts9 : ts.length ≤ 9 := hts
  have hws9 : ws.length ≤ 9 := by have := hpos.len; omega
  clear hrows hpos hts ht5 hst5 hh1 hh2 HO3 HT3 HB3
  go_wp2
  go_loop [7] (fun i => ∃ j : Nat, i = .int .i64 j ∧ j ≤ ws.length ∧ Hid (∀ q (h : q < ws.length), q < j → 0 ≤ ws[q])) (fun i => ws.length - (intOf i).toNat)
  case atStart => exact ⟨0, rfl, Nat.zero_le _, Lib.hid (fun q _ h => by omega)⟩
  case round =>
    obtain ⟨j, rfl, hj, HJ⟩ := hrel
    by_cases hlt : j < ws.length
    · obtain ⟨b2, o2, rfl, e2⟩ := H2.out.iv hlt
      by_cases hy : ws[j] < 0
      · clear HJ
        generalize ws[j] = y at *
        go_wp2
        go_ret
        exact ⟨rfl, HB5.out⟩
      · have HJ2 : Hid (∀ q (h : q < ws.length), q < j + 1 → 0 ≤ ws[q]) := Lib.hid (fun q h hq => by
          rcases Nat.lt_succ_iff_lt_or_eq.1 hq with h3 | rfl
          · exact HJ.out q h h3
          · omega)
        clear HJ
        generalize ws[j] = y at *
        go_wp2
        go_round
        case rel => exact ⟨j + 1, by go_num, by omega, HJ2⟩
        case measure => simp [intOf]; omega
    · have HW : Hid (∀ q (h : q < ws.length), 0 ≤ ws[q]) := Lib.hid (fun q h => HJ.out q h (by omega))
      have CS := Lib.hid (hS.out A A1 A2 c c1 c2 g ts ws w5 (rows_of HO5.out) H1.out H2.out HP.out hc1 hc2)
      clear HJ
      rcases hst : stuckB g ts ws with _ | _
      · rw [hst] at CS
        clear hst
        go_wp2_with fail
        refine CS.out.mono ?_
        rintro e w6 ⟨rfl, hb6⟩
        have HB6 := Lib.hid (HB5.out.trans (hb6.mono HB5.out.size))
        clear hb6
        go_wp2
        go_ret
        exact ⟨rfl, HB6.out⟩
      · rw [hst] at CS
        obtain ⟨q1, q2, q3, q4, q5⟩ := ring_stuck HP.out (opens_open g.length) HW.out hst
        have HR0 := Lib.hid q1
        have HRi := Lib.hid q2
        have HRl := Lib.hid q3
        have hrl := q2.len
        clear q1 q2 q3 HW
        go_wp2_with fail
        refine CS.out.mono ?_
        rintro e w6 ⟨rfl, hb6⟩
        have HO6 := Lib.hid (HO5.out.keep hb6)
        have H16 := Lib.hid (H1.out.keep hb6)
        have H26 := Lib.hid (H2.out.keep hb6)
        have HB6 := Lib.hid (HB5.out.trans (hb6.mono HB5.out.size))
        clear hb6 CS HO5 H1 H2 HB5
        go_wp2_with (refine make_any _ rfl _ _ 50 4 (.bool false) 1 Try.underlying50 Try.infoBoolS rfl (by decide) rfl .i64 .i64 _ _ g.length rfl rfl rfl rfl (by omega) ?_)
        intro wM ownM hbM
        have HRM : Hid (RowsAt wM A g) := Lib.hid (rows_of (HO6.out.keep hbM))
        have HSM : Hid (Holds wM (some ⟨w6.heap.size, 0, none⟩) ((opensT g.length).map Bo)) := Lib.hid (by
          obtain ⟨A2, c2, h1, h2⟩ := own_is ownM
          injection h1 with h1
          subst h1
          unfold opensT
          rw [List.map_replicate]
          exact h2)
        have HBM := Lib.hid hbM
        clear ownM hbM
        go_wp2_with fail
        refine (girth_ok HG.out HRM.out HSM.out HV.out rfl (opens_len _)).mono ?_
        rintro e w7 ⟨X, cx, hcx, rfl, hx7, hb7⟩
        have HX7 := Lib.hid hx7
        have hbMi : Below w6.heap.size w6 w7 := HBM.out.trans (hb7.mono HBM.out.size)
        have HM7 := Lib.hid hbMi
        clear hbMi hb7 hx7 HRM HSM HBM
        have H17 := Lib.hid (H16.out.keep HM7.out)
        have H27 := Lib.hid (H26.out.keep HM7.out)
        have HB7 := Lib.hid (HB6.out.trans (HM7.out.mono HB6.out.size))
        have CR := Lib.hid (hR.out A A1 A2 c c1 c2 g ts ws w7 (rows_of (HO6.out.keep HM7.out)) H17.out H27.out HP.out hc1 hc2 HR0.out)
        clear HO6 H16 H26 HB6 HM7 HX7 HR0
        generalize (girF g (opensT g.length)).length = n at *
        generalize ringL ts ws = r at *
        go_wp2_with fail
        refine CR.out.mono ?_
        rintro e w8 ⟨⟨u, rfl, hu⟩, hb8⟩
        obtain ⟨A8, c8, rfl, hh8⟩ := own_is hu
        have H8 := Lib.hid hh8
        have H18 := Lib.hid (H17.out.keep hb8)
        have H28 := Lib.hid (H27.out.keep hb8)
        have HB8 := Lib.hid (HB7.out.trans (hb8.mono HB7.out.size))
        clear hu hh8 hb8 CR H17 H27 HB7
        have hn0 : ((n : Int) == 0) = false := by rw [beq_eq_false_iff_ne]; omega
        have hn0' : ¬ n = 0 := by omega
        have hnr : decide (r.length < n) = false := decide_eq_false (by omega)
        have hrp : 0 < r.length := by omega
        go_wp2
        clear hn0 hn0' hnr
        go_loopw [13] (fun i wr => ∃ j : Nat, i = .int .i64 j ∧ j ≤ r.length ∧ Hid (Below w8.heap.size w8 wr)) (fun i _ => r.length - (intOf i).toNat)
        case atStart => exact ⟨0, rfl, Nat.zero_le _, Lib.hid (Below.refl _ _)⟩
        case round =>
          obtain ⟨j, rfl, hj, HBj⟩ := hrel
          by_cases hlt2 : j < r.length
          · obtain ⟨nx, hnx⟩ : ∃ nx, nx = (j + 1) % r.length := ⟨_, rfl⟩
            have hnl : nx < r.length := by rw [hnx]; exact Nat.mod_lt _ hrp
            have hmod : Int.tmod ((j : Int) + 1) (r.length : Int) = (nx : Int) := by
              rw [Int.tmod_eq_emod_of_nonneg (by omega), hnx]
              rfl
            have hst : Fl.stepT ts ws r[j] = r[nx]'hnl := by
              have h := HRi.out.two hlt2
              subst hnx
              exact h
            clear hnx
            obtain ⟨r1, r2, r3⟩ := HRi.out.rng _ (List.getElem_mem hlt2)
            obtain ⟨s1, s2, _⟩ := HRi.out.rng _ (List.getElem_mem hnl)
            obtain ⟨_, hon⟩ := r3.on
            rw [hst] at hon
            have hz := HRl.out j
            rw [List.getElem?_eq_getElem hrp, List.getElem?_eq_getElem hlt2] at hz
            obtain ⟨b8, o8, rfl, e8⟩ := (H8.out.keep HBj.out).iv hlt2
            obtain ⟨b8', o8', hA8, f8⟩ := (H8.out.keep HBj.out).iv hnl
            injection hA8 with hA8
            injection hA8 with t1 t2
            subst t1 t2
            obtain ⟨b8', o8', hA8, g8⟩ := (H8.out.keep HBj.out).iv hrp
            injection hA8 with hA8
            injection hA8 with t1 t2
            subst t1 t2
            have HLe := Lib.hid hz
            clear hst r3 hz
            rw [Nat.add_zero] at g8
            generalize r[nx] = y at *
            generalize hx0 : r[j] = x at *
            generalize hz0 : r[0] = z at *
            obtain ⟨xn, rfl⟩ := Int.eq_ofNat_of_zero_le r1
            obtain ⟨yn, rfl⟩ := Int.eq_ofNat_of_zero_le s1
            have hxt : xn < ts.length := by omega
            have hyt : yn < ts.length := by omega
            have hxw : xn < ws.length := by rw [← HP.out.len]; exact hxt
            rw [Fl.atI_get hyt, Fl.atI_get hxw] at hon
            obtain ⟨b1, o1, rfl, e1⟩ := (H18.out.keep HBj.out).iv hyt
            obtain ⟨b2, o2, rfl, e2⟩ := (H28.out.keep HBj.out).iv hxw
            rw [hon] at e1
            clear hon hx0 hz0 HRi
            generalize ws[xn] = q at *
            have hd0 : decide ((xn : Int) < 0) = false := decide_eq_false (by omega)
            have hd1 : decide (ts.length ≤ xn) = false := decide_eq_false (by omega)
            have hd2 : decide ((yn : Int) < 0) = false := decide_eq_false (by omega)
            have hd3 : decide (ts.length ≤ yn) = false := decide_eq_false (by omega)
            by_cases hj0 : 0 < j
            · have hle : ¬ ((xn : Int) ≤ z) := by have := HLe.out _ _ hj0 rfl rfl; omega
              have hd4 : decide ((xn : Int) ≤ z) = false := decide_eq_false hle
              have hd5 : decide (0 < j) = true := decide_eq_true hj0
              clear HLe
              go_wp2_with fail
              go_quiet (fail)
              rename_i nq
              have HB9 := Lib.hid (below_drewN HBj.out nq)
              go_wp2
              go_roundw
              case rel => exact ⟨j + 1, by go_num, by omega, HB9⟩
              case measure => simp [intOf]; omega
            · have hd5 : decide (0 < j) = false := decide_eq_false hj0
              clear HLe
              go_wp2_with fail
              go_quiet (fail)
              rename_i nq
              have HB9 := Lib.hid (below_drewN HBj.out nq)
              go_wp2
              go_roundw
              case rel => exact ⟨j + 1, by go_num, by omega, HB9⟩
              case measure => simp [intOf]; omega
          · have HEnd := Lib.hid (HB8.out.trans (HBj.out.mono HB8.out.size))
            go_wp2
            go_ret
            exact ⟨rfl, HEnd.out⟩
end Go.Proofs.Ytfgpenekmokdiaa
