/- TokenTight returns true, if the functions keep what TkBase asks. -/
import Derived.Test.YtfgpenekmokdiaaMzAI
namespace Go.Proofs.Ytfgpenekmokdiaa
open Go Go.RowKit Fl

theorem rows_of {w : World} {base c : Nat} {A : Option Addr} {g : GraphD} (h : RowsOwn w base (.slice A g.length c) g) : RowsAt w A g := by
  obtain ⟨A2, c2, h1, h2⟩ := h.at_
  injection h1 with h1
  subst h1
  exact h2
set_option maxRecDepth 100000 in
set_option maxHeartbeats 8000000 in
theorem tokenTight_c (hK : DevKnown12) (hG : DevGirth) (hVa : DevValidT) (hS : DevStuckT) (hR : DevRingT) (hT : DevTightT) (C : Option Addr) (k : Nat) (zs : List Int) (w : World) (hz : IntsAt w w.heap.size C zs) (hzl : zs.length ≤ maxLen) :
    Calls Try.prog 6 #[.slice C zs.length k] w fun e w' => e = .returned (.bool true) ∧ Below w.heap.size w w' := by
  have CK := Lib.hid (hK w)
  have HZ := Lib.hid hz
  have HL := Lib.hid hzl
  have HG := Lib.hid hG
  have hVa := Lib.hid hVa
  have hS := Lib.hid hS
  have hR := Lib.hid hR
  have hT := Lib.hid hT
  clear hK hz hzl hG
  go_enter Try.func6, Try.ntmps6
  go_wp2_with fail
  refine CK.out.mono ?_
  rintro e w1 ⟨rfl, hb1⟩
  have ht := tape_new (c := k) HZ.out (Nat.le_refl _) hb1 HL.out
  have hb2 : Below w.heap.size w (w1.alloc (.cells #[.slice C zs.length k, .int .i64 0] 27)) := hb1.alloc hb1.size _
  have HT2 := Lib.hid ht
  have hgB : w.heap.size ≤ w1.heap.size := hb1.size
  have HB2 := Lib.hid hb2
  have hsz2 : w1.heap.size < (w1.alloc (.cells #[.slice C zs.length k, .int .i64 0] 27)).heap.size := by simp
  clear hb1 ht hb2 CK HZ HL
  go_wp2_with fail
  refine (graph_c w.heap.size w1.heap.size _ 10 _ HT2.out (by omega) (by omega) hsz2).mono ?_
  rintro e w3 ⟨gv, g, rfl, hgl, hok, hown3, ht3, hst3⟩
  obtain ⟨A, c, rfl, _⟩ := hown3.at_
  have HV := Lib.hid (hok.valid (by omega))
  have HT3 := Lib.hid ht3
  have HO3 := Lib.hid hown3
  have HB3 := Lib.hid (HB2.out.trans (hst3.below HB2.out.size hgB))
  have hsz3 := Nat.lt_of_lt_of_le hsz2 hst3.size
  generalize w1.alloc (.cells #[.slice C zs.length k, .int .i64 0] 27) = w2 at *
  generalize w1.heap.size = gt at *
  clear hok ht3 hown3 hst3 HT2 HB2
  go_wp2_with (refine make_any _ rfl _ _ 50 4 (.bool false) 1 Try.underlying50 Try.infoBoolS rfl (by decide) rfl .i64 .i64 _ _ g.length rfl rfl rfl rfl (by omega) ?_)
  intro wM ownM hbM
  have HRM : Hid (RowsAt wM A g) := Lib.hid (rows_of (HO3.out.keep hbM))
  have HSM : Hid (Holds wM (some ⟨w3.heap.size, 0, none⟩) ((opensT g.length).map Bo)) := Lib.hid (by
    obtain ⟨A2, c2, h1, h2⟩ := own_is ownM
    injection h1 with h1
    subst h1
    unfold opensT
    rw [List.map_replicate]
    exact h2)
  have HBM := Lib.hid hbM
  clear ownM hbM
  go_wp2_with fail
  refine (girth_ok HG.out HRM.out HSM.out HV.out rfl (opens_len _)).mono ?_
  rintro e w4 ⟨X, cx, hcx, rfl, hx4, hb4⟩
  have HX4 := Lib.hid hx4
  have hbMi : Below w3.heap.size w3 w4 := HBM.out.trans (hb4.mono HBM.out.size)
  have HM4 := Lib.hid hbMi
  clear hbMi hb4 hx4 HRM HSM HBM
  have HO4 := Lib.hid (HO3.out.keep HM4.out)
  have HB4 := Lib.hid (HB3.out.trans (HM4.out.mono HB3.out.size))
  have CT := Lib.hid (hT.out A c g w4 (rows_of HO4.out) HV.out)
  clear HO3 HT3 HB3 HM4 HX4
  by_cases hw : girF g (opensT g.length) = []
  · have CU := Lib.hid (CT.out.1 hw)
    clear CT
    have hn : (girF g (opensT g.length)).length = 0 := by rw [hw]; rfl
    clear hw
    generalize (girF g (opensT g.length)).length = n at *
    subst hn
    go_wp2_with fail
    refine CU.out.mono ?_
    rintro e w5 ⟨rfl, hb5⟩
    have HB5 := Lib.hid (HB4.out.trans (hb5.mono HB4.out.size))
    clear hb5
    go_wp2
    go_ret
    exact ⟨rfl, HB5.out⟩
  · have CU := Lib.hid (CT.out.2 hw)
    clear CT
    have HP := Lib.hid (tight_pos HV.out hw)
    have HSt := Lib.hid (tight_stuck HV.out hw)
    have hc := gir_closed HV.out hw
    obtain ⟨hr1, hr2⟩ := tight_ring (gir_nodup (s := opensT g.length) HV.out) (fun x hx => (hc.walk.ok x hx).1) (List.length_pos_iff.2 hw)
    have HR0 := Lib.hid hr1
    have HRl := Lib.hid hr2
    have hlp : 0 < (girF g (opensT g.length)).length := List.length_pos_iff.2 hw
    have hrl := rotL_length (girF g (opensT g.length))
    have HRL := Lib.hid hrl
    clear hc hr1 hr2 hw hrl
    generalize girF g (opensT g.length) = l at *
    go_wp2_with fail
    refine CU.out.mono ?_
    rintro e w5 ⟨⟨u, v, rfl, hu, hv⟩, hb5⟩
    obtain ⟨A1, c1, rfl, hc1, hh1⟩ := own_cap hu
    obtain ⟨A2, c2, rfl, hc2, hh2⟩ := own_cap hv
    have HO5 := Lib.hid (HO4.out.keep hb5)
    have HB5 := Lib.hid (HB4.out.trans (hb5.mono HB4.out.size))
    have H1 := Lib.hid hh1
    have H2 := Lib.hid hh2
    have CR := Lib.hid (hR.out A A1 A2 c c1 c2 g l (rotL l) w5 (rows_of HO5.out) hh1 hh2 HP.out hc1 (by rw [HRL.out]; exact hc2) HR0.out)
    have CV := Lib.hid (fun W (hW : Below w5.heap.size w5 W) => hVa.out A A1 A2 c c1 c2 g l (rotL l) W (rows_of (HO5.out.keep hW)) (H1.out.keep hW) (H2.out.keep hW) HP.out hc1 (by rw [HRL.out]; exact hc2))
    have CS := Lib.hid (fun W (hW : Below w5.heap.size w5 W) => hS.out A A1 A2 c c1 c2 g l (rotL l) W (rows_of (HO5.out.keep hW)) (H1.out.keep hW) (H2.out.keep hW) HP.out hc1 (by rw [HRL.out]; exact hc2))
    rw [HSt.out] at CS
    rw [HRL.out, HRl.out] at CR
    rw [HRL.out] at CV CS
    clear hu hv hh1 hh2 hb5 CU HO4 HB4 HRL HRl HR0 HSt H1 H2
    have hn0 : ((l.length : Int) == 0) = false := by rw [beq_eq_false_iff_ne]; omega
    have hn1 : ¬ l.length = 0 := by omega
    generalize l.length = n at *
    go_wp2_with fail
    refine CR.out.mono ?_
    rintro e w6 ⟨⟨u, rfl, hu⟩, hb6⟩
    obtain ⟨A6, c6, rfl, _⟩ := own_is hu
    have HB6 := Lib.hid hb6
    clear hu hb6 CR
    go_wp2_with fail
    refine (CV.out _ HB6.out).mono ?_
    rintro e w7 ⟨rfl, hb7⟩
    have HB7 := Lib.hid (HB6.out.trans (hb7.mono HB6.out.size))
    clear hb7 CV HB6
    go_wp2_with fail
    refine (CS.out _ HB7.out).mono ?_
    rintro e w8 ⟨rfl, hb8⟩
    have HB8 := Lib.hid (HB5.out.trans ((HB7.out.trans (hb8.mono HB7.out.size)).mono HB5.out.size))
    clear hb8 CS HB7
    go_wp2
    go_ret
    exact ⟨rfl, HB8.out⟩
end Go.Proofs.Ytfgpenekmokdiaa
