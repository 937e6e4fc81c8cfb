/- components' Names keeps what ChBase asks. -/
import Derived.Test.YtkgnblnhfjjjmaaCdNameAll
import Derived.Test.YtkgnblnhfjjjmaaRdTwo
namespace Go.Proofs.Ytkgnblnhfjjjmaa
open Go Go.RowKit Fl

theorem IRow.holds {w : World} {base n : Nat} {u : Value} {xs : List Value} (h : w.ownsRow base 3 1 u n xs) : ∃ A c, u = .slice A n c ∧ Holds w A xs := own_is h
set_option maxRecDepth 100000 in
set_option maxHeartbeats 4000000 in
theorem devNames_k : DevNames := by
  intro A B c d g s w hh hs hz
  have CW := Lib.hid (devWithout_c A B c d g s w hh hs hz.1 hz.2)
  rcases chkG_cases g s.length with ⟨h0, hv, hsl⟩ | h0 | h0
  · have hl24 := validG_len hv
    have hN : nmL g s = namesL g s := by unfold nmL; rw [if_pos h0]
    have hW : woL g s = woG g s := by unfold woL; rw [if_pos h0]
    rw [h0, hW] at CW
    rw [h0, hN]
    have HH := Lib.hid hh
    have HS := Lib.hid hs
    have HV := Lib.hid hv
    have HSL := Lib.hid hsl
    clear hh hs hz h0 hN hW hsl
    go_enter Try.func22, Try.ntmps22
    go_wp2_with fail
    refine CW.out.mono ?_
    rintro e w2 ⟨u, rfl, hu, hb⟩
    obtain ⟨A2, c2, rfl, hr⟩ := hu.at_
    have CN := nameAll_c A2 B c2 d (woG g s) s w2 hr (HS.out.keep hb) (woG_valid HV.out) (by rw [woG_length]; exact HSL.out)
    rw [names_own] at CN
    have HCN := Lib.hid CN
    have HB := Lib.hid hb
    clear CN hr hb CW hu
    go_wp2_with fail
    refine HCN.out.mono ?_
    rintro e w3 ⟨u3, rfl, h3, hb3⟩
    rw [woG_length] at h3
    obtain ⟨A3, c3, rfl, h4⟩ := IRow.holds h3
    have H4 := Lib.hid h4
    have HB3 := Lib.hid (HB.out.trans (hb3.mono HB.out.size))
    clear h3 h4 hb3
    go_wp2
    go_ret2
    exact ⟨A3, c3, by rw [namesL_length]; rfl, H4.out, HB3.out⟩
  · have hN : nmL g s = [] := by unfold nmL; rw [if_neg (by omega)]
    rw [h0] at CW
    rw [h0, hN]
    clear hh hs hz h0 hN
    go_enter Try.func22, Try.ntmps22
    go_wp2_with fail
    refine CW.out.mono ?_
    rintro e w2 ⟨u, rfl, hu, hb⟩
    go_wp2
    go_ret2
    exact ⟨none, 0, rfl, .nil, hb⟩
  · have hN : nmL g s = [] := by unfold nmL; rw [if_neg (by omega)]
    rw [h0] at CW
    rw [h0, hN]
    clear hh hs hz h0 hN
    go_enter Try.func22, Try.ntmps22
    go_wp2_with fail
    refine CW.out.mono ?_
    rintro e w2 ⟨u, rfl, hu, hb⟩
    go_wp2
    go_ret2
    exact ⟨none, 0, rfl, .nil, hb⟩
end Go.Proofs.Ytkgnblnhfjjjmaa
