/- ReachReverses returns true, if reach's functions keep what RhDev asks. -/
import Derived.Test.YtadcapeedjgeoaaRhBase
namespace Go.Proofs.Ytadcapeedjgeoaa
open Go Go.RowKit Fl

set_option maxRecDepth 100000 in
set_option maxHeartbeats 8000000 in
theorem reachReverses_c (hF : DevFrom) (hM : DevMutual) (hV : DevValid) (hR : DevReverse) (hW : DevWithout) (C : Option Addr) (k : Nat) (zs : List Int) (w : World) (hz : IntsAt w w.heap.size C zs) (hzl : zs.length ≤ maxLen) :
    Calls Try.prog 4 #[.slice C zs.length k] w fun e w' => e = .returned (.bool true) ∧ Below w.heap.size w w' := by
  have CK := Lib.hid (known4_c hF hM hV w)
  have HF := Lib.hid hF
  have HM := Lib.hid hM
  have HR := Lib.hid hR
  have HW := Lib.hid hW
  have HZ := Lib.hid hz
  have HL := Lib.hid hzl
  clear hF hM hV hR hW hz hzl
  go_enter Try.func4, Try.ntmps4
  go_wp2_with fail
  refine CK.out.mono ?_
  rintro e w1 ⟨rfl, hb1⟩
  have ht := tape_new (c := k) HZ.out (Nat.le_refl _) hb1 HL.out
  have hb2 : Below w.heap.size w (w1.alloc (.cells #[.slice C zs.length k, .int .i64 0] 28)) := hb1.alloc hb1.size _
  have HT2 := Lib.hid ht
  have hgB : w.heap.size ≤ w1.heap.size := hb1.size
  have HB2 := Lib.hid hb2
  have hsz2 : w1.heap.size < (w1.alloc (.cells #[.slice C zs.length k, .int .i64 0] 28)).heap.size := by simp
  clear hb1 ht hb2 CK HZ HL
  go_wp2_with fail
  refine (graph_c w.heap.size w1.heap.size _ 8 _ HT2.out (by omega) (by omega) hsz2).mono ?_
  rintro e w3 ⟨gv, g, rfl, hgl, hok, hown3, ht3, hst3⟩
  obtain ⟨A, c, rfl, _⟩ := hown3.at_
  have HV := Lib.hid (hok.valid (by omega))
  have HT3 := Lib.hid ht3
  have HO3 := Lib.hid hown3
  have HB3 := Lib.hid (HB2.out.trans (hst3.below HB2.out.size hgB))
  have hsz3 := Nat.lt_of_lt_of_le hsz2 hst3.size
  generalize w1.alloc (.cells #[.slice C zs.length k, .int .i64 0] 28) = w2 at *
  clear hok ht3 hown3 hst3 HT2 HB2
  go_wp2_with fail
  refine (shut_c w.heap.size w1.heap.size _ g.length w3 HT3.out (by omega) (by omega) hsz3).mono ?_
  rintro e w4 ⟨sv, s, rfl, hsl4, hos4, ht4, hst4⟩
  obtain ⟨B, d, rfl, hs4⟩ := own_is hos4
  have HSL := Lib.hid hsl4
  have HT4 := Lib.hid ht4
  have HO4 := Lib.hid (HO3.out.but hst4.grown hsz2)
  have HS4 := Lib.hid hos4
  have HB4 := Lib.hid (HB3.out.trans (hst4.below HB3.out.size hgB))
  have hsz4 := Nat.lt_of_lt_of_le hsz3 hst4.size
  clear HT3 HO3 HB3 hsl4 ht4 hos4 hs4 hst4
  have HRg : Hid (RowsAt w4 A g) := Lib.hid (by
    obtain ⟨A2, c2, h1, h2⟩ := HO4.out.at_
    injection h1 with h1
    subst h1
    exact h2)
  have HSs : Hid (Holds w4 B (s.map Bo)) := Lib.hid (by
    obtain ⟨A2, c2, h1, h2⟩ := own_is HS4.out
    injection h1 with h1
    subst h1
    exact h2)
  clear HW HM HT4 HO4 HS4 hgB hsz4
  go_wp2_with fail
  refine (reverse_ok HR.out HRg.out HV.out rfl).mono ?_
  rintro e w5 ⟨R, cr, rfl, hr5, hb5⟩
  have HRg5 := Lib.hid (HRg.out.keep hb5)
  have HSs5 := Lib.hid (HSs.out.keep hb5)
  have HRv5 := Lib.hid hr5
  have HB5 := Lib.hid (HB4.out.trans (hb5.mono HB4.out.size))
  clear hb5 hr5 HRg HSs HB4
  go_wp2_with fail
  refine (reverse_ok HR.out HRv5.out (revG_valid HV.out) (revG_length g)).mono ?_
  rw [revG_rev HV.out]
  rintro e w6 ⟨R2, cr2, rfl, hr6, hb6⟩
  have HRg6 := Lib.hid (HRg5.out.keep hb6)
  have HSs6 := Lib.hid (HSs5.out.keep hb6)
  have HRv6 := Lib.hid (HRv5.out.keep hb6)
  have HR26 := Lib.hid hr6
  have HB6 := Lib.hid (HB5.out.trans (hb6.mono HB5.out.size))
  clear hb6 hr6 HRg5 HSs5 HRv5 HB5
  have HSz := Lib.hid (Sized.valid HV.out)
  go_wp2_with fail
  refine (sameListsE_c R2 A cr2 c g _ HR26.out HRg6.out HSz.out.1 HSz.out.2).mono ?_
  rintro e w7 ⟨rfl, n7, rfl⟩
  have HRg7 := Lib.hid (HRg6.out.keep (below_drewN (Below.refl _ _) n7))
  have HSs7 := Lib.hid (HSs6.out.drewN n7)
  have HRv7 := Lib.hid (HRv6.out.keep (below_drewN (Below.refl _ _) n7))
  have HB7 := Lib.hid (below_drewN HB6.out n7)
  clear HRg6 HSs6 HRv6 HR26 HB6 HSz
  generalize w6.drewN n7 = w7 at *
  go_wp2
  go_loopw [10] (fun i wr => ∃ u : Nat, i = .int .i64 u ∧ u ≤ g.length ∧ Hid (Below w7.heap.size w7 wr)) (fun i _ => g.length - (intOf i).toNat)
  case atStart => exact ⟨0, rfl, Nat.zero_le _, Lib.hid (Below.refl _ _)⟩
  case round =>
    obtain ⟨u, rfl, hu, HW⟩ := hrel
    by_cases hlt : u < g.length
    · go_wp2_with fail
      refine (from_ok HF.out (v := u) (HRg7.out.keep HW.out) (HSs7.out.keep HW.out) HV.out rfl HSL.out hlt).mono ?_
      rintro e w8 ⟨X, cx, rfl, hx, hb8⟩
      have HX := Lib.hid hx
      have HW8 := Lib.hid (HW.out.trans (hb8.mono HW.out.size))
      clear hx hb8 HW
      go_wp2
      go_loopw [13] (fun i wr => ∃ v : Nat, i = .int .i64 v ∧ v ≤ g.length ∧ Hid (Below w8.heap.size w8 wr)) (fun i _ => g.length - (intOf i).toNat)
      case atStart => exact ⟨0, rfl, Nat.zero_le _, Lib.hid (Below.refl _ _)⟩
      case round =>
        obtain ⟨v, rfl, hv, HW⟩ := hrel
        by_cases hvt : v < g.length
        · have HWr := Lib.hid (HW8.out.trans (HW.out.mono HW8.out.size))
          go_wp2_with fail
          refine (from_ok HF.out (v := v) (HRv7.out.keep HWr.out) (HSs7.out.keep HWr.out) (revG_valid HV.out) (revG_length g) HSL.out hvt).mono ?_
          rintro e w9 ⟨Y, cy, rfl, hy, hb9⟩
          have HW9 := Lib.hid (HW.out.trans (hb9.mono HW.out.size))
          obtain ⟨b1, o1, p, rfl, e1, hp⟩ := reach_at rfl (HX.out.keep HW9.out) hvt
          obtain ⟨b2, o2, q, rfl, e2, hq⟩ := reach_at (revG_length g) hy hlt
          have hpq : p = q := by rw [Bool.eq_iff_iff, hp, hq]; exact path_rev HV.out
          subst hpq
          clear hp hq hy hb9 HW HWr
          rcases p with _ | _
          all_goals
            go_wp2_with fail
            go_quiet (fail)
            have HW10 := Lib.hid (below_drewN HW9.out nq)
            go_wp2
            go_roundw
            case rel => exact ⟨v + 1, by go_num, by omega, HW10⟩
            case measure => simp [intOf]; omega
        · have HWr := Lib.hid (HW8.out.trans (HW.out.mono HW8.out.size))
          clear HW HX
          go_wp2
          go_roundw
          case rel => exact ⟨u + 1, by go_num, by omega, HWr⟩
          case measure => simp [intOf]; omega
    · go_wp2
      go_ret
      exact ⟨rfl, HB7.out.trans (HW.out.mono HB7.out.size)⟩
end Go.Proofs.Ytadcapeedjgeoaa
