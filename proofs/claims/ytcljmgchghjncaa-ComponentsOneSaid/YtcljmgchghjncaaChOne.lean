/- ComponentsOne returns true, if components' and reach's functions keep what ChBase and RhDev ask. -/
import Derived.Test.YtcljmgchghjncaaChBase
namespace Go.Proofs.Ytcljmgchghjncaa
open Go Go.RowKit Fl

set_option maxRecDepth 100000 in
set_option maxHeartbeats 8000000 in
theorem componentsOne_c (hF : DevFrom) (hM : DevMutual) (hN : DevNames) (hO : DevOrder) (hQ : DevQuot) (C : Option Addr) (k : Nat) (zs : List Int) (w : World) (hz : IntsAt w w.heap.size C zs) (hzl : zs.length ≤ maxLen) :
    Calls Try.prog 5 #[.slice C zs.length k] w fun e w' => e = .returned (.bool true) ∧ Below w.heap.size w w' := by
  have CK := Lib.hid (known5_c hN hO hQ w)
  have HF := Lib.hid hF
  have HM := Lib.hid hM
  have HN := Lib.hid hN
  have HO := Lib.hid hO
  have HQ := Lib.hid hQ
  have HZ := Lib.hid hz
  have HL := Lib.hid hzl
  clear hF hM hN hO hQ hz hzl
  go_enter Try.func5, Try.ntmps5
  go_wp2_with fail
  refine CK.out.mono ?_
  rintro e w1 ⟨rfl, hb1⟩
  have ht := tape_new (c := k) HZ.out (Nat.le_refl _) hb1 HL.out
  have hb2 : Below w.heap.size w (w1.alloc (.cells #[.slice C zs.length k, .int .i64 0] 28)) := hb1.alloc hb1.size _
  have HT2 := Lib.hid ht
  have hgB : w.heap.size ≤ w1.heap.size := hb1.size
  have HB2 := Lib.hid hb2
  have hsz2 : w1.heap.size < (w1.alloc (.cells #[.slice C zs.length k, .int .i64 0] 28)).heap.size := by simp
  clear hb1 ht hb2 CK HZ HL
  go_wp2_with fail
  refine (graph_c w.heap.size w1.heap.size _ 8 _ HT2.out (by omega) (by omega) hsz2).mono ?_
  rintro e w3 ⟨gv, g, rfl, hgl, hok, hown3, ht3, hst3⟩
  obtain ⟨A, c, rfl, _⟩ := hown3.at_
  have HV := Lib.hid (hok.valid (by omega))
  have HT3 := Lib.hid ht3
  have HO3 := Lib.hid hown3
  have HB3 := Lib.hid (HB2.out.trans (hst3.below HB2.out.size hgB))
  have hsz3 := Nat.lt_of_lt_of_le hsz2 hst3.size
  generalize w1.alloc (.cells #[.slice C zs.length k, .int .i64 0] 28) = w2 at *
  clear hok ht3 hown3 hst3 HT2 HB2
  go_wp2_with fail
  refine (shut_c w.heap.size w1.heap.size _ g.length w3 HT3.out (by omega) (by omega) hsz3).mono ?_
  rintro e w4 ⟨sv, s, rfl, hsl4, hos4, ht4, hst4⟩
  obtain ⟨B, d, rfl, hs4⟩ := own_is hos4
  have HSL := Lib.hid hsl4
  have HT4 := Lib.hid ht4
  have HO4 := Lib.hid (HO3.out.but hst4.grown hsz2)
  have HS4 := Lib.hid hos4
  have HB4 := Lib.hid (HB3.out.trans (hst4.below HB3.out.size hgB))
  have hsz4 := Nat.lt_of_lt_of_le hsz3 hst4.size
  clear HT3 HO3 HB3 hsl4 ht4 hos4 hs4 hst4
  have HRg : Hid (RowsAt w4 A g) := Lib.hid (by
    obtain ⟨A2, c2, h1, h2⟩ := HO4.out.at_
    injection h1 with h1
    subst h1
    exact h2)
  have HSs : Hid (Holds w4 B (s.map Bo)) := Lib.hid (by
    obtain ⟨A2, c2, h1, h2⟩ := own_is HS4.out
    injection h1 with h1
    subst h1
    exact h2)
  clear HF HN HQ HT4 HO4 HS4 hgB hsz4
  go_wp2_with fail
  refine (mutual_ok HM.out HRg.out HSs.out HV.out rfl HSL.out).mono ?_
  rintro e w5 ⟨rfl, hb5⟩
  have HRg5 := Lib.hid (HRg.out.keep hb5)
  have HSs5 := Lib.hid (HSs.out.keep hb5)
  have HB5 := Lib.hid (HB4.out.trans (hb5.mono HB4.out.size))
  clear hb5 HRg HSs HB4
  go_wp2_with fail
  refine (order_ok5 HO.out HRg5.out HSs5.out HV.out rfl HSL.out).mono ?_
  rintro e w6 ⟨X, cx, rfl, hx6, hb6⟩
  have HB6 := Lib.hid (HB5.out.trans (hb6.mono HB5.out.size))
  have hq : (((orderL g s).length : Int) == 1) = mutB g s := by
    rw [Bool.eq_iff_iff, mutB_iff, beq_iff_eq]
    exact ⟨fun h => ⟨chkG_ok HV.out HSL.out, order_one.2 (by omega)⟩, fun h => by have := order_one.1 h.2; omega⟩
  clear hb6 hx6 HRg5 HSs5 HB5
  generalize (orderL g s).length = no at *
  generalize mutB g s = mb at *
  rcases mb with _ | _
  all_goals
    go_wp2
    go_ret
    exact ⟨rfl, HB6.out⟩
end Go.Proofs.Ytcljmgchghjncaa
