/- GirthLeast returns true, if girth's and components' functions keep what CgBase and ChBase ask. -/
import Derived.Test.YtkgnblnhfjjjmaaCgKnown
import Derived.Test.YtkgnblnhfjjjmaaCgFacts
namespace Go.Proofs.Ytkgnblnhfjjjmaa
open Go Go.RowKit Fl

set_option maxRecDepth 100000 in
set_option maxHeartbeats 8000000 in
theorem girthLeast_c (hG : DevGirth) (hT : DevThrough) (hC : DevClosed) (C : Option Addr) (k : Nat) (zs : List Int) (w : World) (hz : IntsAt w w.heap.size C zs) (hzl : zs.length ≤ maxLen) :
    Calls Try.prog 5 #[.slice C zs.length k] w fun e w' => e = .returned (.bool true) ∧ Below w.heap.size w w' := by
  have CK := Lib.hid (known6_c hG hT hC w)
  have HGi := Lib.hid hG
  have HTh := Lib.hid hT
  have HCl := Lib.hid hC
  have HZ := Lib.hid hz
  have HL := Lib.hid hzl
  clear hG hT hC hz hzl
  go_enter Try.func5, Try.ntmps5
  go_wp2_with fail
  refine CK.out.mono ?_
  rintro e w1 ⟨rfl, hb1⟩
  have ht := tape_new (c := k) HZ.out (Nat.le_refl _) hb1 HL.out
  have hb2 : Below w.heap.size w (w1.alloc (.cells #[.slice C zs.length k, .int .i64 0] 28)) := hb1.alloc hb1.size _
  have HT2 := Lib.hid ht
  have hgB : w.heap.size ≤ w1.heap.size := hb1.size
  have HB2 := Lib.hid hb2
  have hsz2 : w1.heap.size < (w1.alloc (.cells #[.slice C zs.length k, .int .i64 0] 28)).heap.size := by simp
  clear hb1 ht hb2 CK HZ HL
  go_wp2_with fail
  refine (graph_c w.heap.size w1.heap.size _ 9 _ HT2.out (by omega) (by omega) hsz2).mono ?_
  rintro e w3 ⟨gv, g, rfl, hgl, hok, hown3, ht3, hst3⟩
  obtain ⟨A, c, rfl, _⟩ := hown3.at_
  have HV := Lib.hid (hok.valid (by omega))
  have HT3 := Lib.hid ht3
  have HO3 := Lib.hid hown3
  have HB3 := Lib.hid (HB2.out.trans (hst3.below HB2.out.size hgB))
  have hsz3 := Nat.lt_of_lt_of_le hsz2 hst3.size
  generalize w1.alloc (.cells #[.slice C zs.length k, .int .i64 0] 28) = w2 at *
  clear hok ht3 hown3 hst3 HT2 HB2
  go_wp2_with fail
  refine (shut_c w.heap.size w1.heap.size _ g.length w3 HT3.out (by omega) (by omega) hsz3).mono ?_
  rintro e w4 ⟨sv, s, rfl, hsl4, hos4, ht4, hst4⟩
  obtain ⟨B, d, rfl, hs4⟩ := own_is hos4
  have HSL := Lib.hid hsl4
  have HT4 := Lib.hid ht4
  have HO4 := Lib.hid (HO3.out.but hst4.grown hsz2)
  have HS4 := Lib.hid hos4
  have HB4 := Lib.hid (HB3.out.trans (hst4.below HB3.out.size hgB))
  have hsz4 := Nat.lt_of_lt_of_le hsz3 hst4.size
  clear HT3 HO3 HB3 hsl4 ht4 hos4 hs4 hst4
  have HRg : Hid (RowsAt w4 A g) := Lib.hid (by
    obtain ⟨A2, c2, h1, h2⟩ := HO4.out.at_
    injection h1 with h1
    subst h1
    exact h2)
  have HSs : Hid (Holds w4 B (s.map Bo)) := Lib.hid (by
    obtain ⟨A2, c2, h1, h2⟩ := own_is HS4.out
    injection h1 with h1
    subst h1
    exact h2)
  clear HT4 HO4 HS4 hgB hsz4
  go_wp2_with fail
  refine (girth_ok HGi.out HRg.out HSs.out HV.out rfl HSL.out).mono ?_
  rintro e w5 ⟨X, cx, hcx, rfl, hx5, hb5⟩
  have HRg5 := Lib.hid (HRg.out.keep hb5)
  have HSs5 := Lib.hid (HSs.out.keep hb5)
  have HB5 := Lib.hid (HB4.out.trans (hb5.mono HB4.out.size))
  have HX5 := Lib.hid hx5
  clear hb5 hx5 HRg HSs HB4
  clear HX5 HGi
  obtain ⟨n, hn⟩ : ∃ n, Hid (n = (girF g s).length) := ⟨_, Lib.hid rfl⟩
  rw [← hn.out]
  go_wp2
  go_loopw [9, 10] (fun lv i wr => ∃ (u m : Nat), lv = .int .i64 m ∧ i = .int .i64 u ∧ u ≤ g.length ∧ m ≤ 25 ∧ Hid (m = (girK g s u).length) ∧ Hid (Below w5.heap.size w5 wr)) (fun _ i _ => g.length - (intOf i).toNat)
  case atStart => exact ⟨0, 0, rfl, rfl, Nat.zero_le _, by omega, Lib.hid rfl, Lib.hid (Below.refl _ _)⟩
  case round =>
    obtain ⟨u, m, rfl, rfl, hu, hm25, HM, HW⟩ := hrel
    by_cases hlt : u < g.length
    · go_wp2_with fail
      refine (through_ok HTh.out (v := u) (HRg5.out.keep HW.out) (HSs5.out.keep HW.out) HV.out rfl HSL.out hlt).mono ?_
      rintro e w8 ⟨Y, cy, _, rfl, hy, hb8⟩
      have HY := Lib.hid hy
      have HW8 := Lib.hid (HW.out.trans (hb8.mono HW.out.size))
      have hsh := thrF_short (s := s) HV.out hlt
      have HK := Lib.hid (girK_upto (g := g) (s := s) u)
      clear hy hb8 HW
      rcases Nat.eq_zero_or_pos (thrF g s u).length with ht0 | ht0
      · have HM2 : Hid (m = (girK g s (u + 1)).length) := Lib.hid (by rw [HK.out, if_neg (by omega)]; exact HM.out)
        have hT0 := ht0
        clear HM HK hsh
        generalize (thrF g s u).length = q at *
        subst hT0
        go_wp2
        go_roundw
        case rel => exact ⟨u + 1, m, rfl, by go_num, by omega, hm25, HM2, HW8⟩
        case measure => simp [intOf]; omega
      · have hne : thrF g s u ≠ [] := List.length_pos_iff.1 ht0
        obtain ⟨hcl, hh0, _⟩ := thr_closed HV.out hlt hne
        have hcls : clsB g s (thrF g s u) = true := (cls_of HV.out HSL.out).2 hcl
        obtain ⟨bw, ow, rfl, e1⟩ := HY.out.iv ht0
        have e0 : (thrF g s u)[0] = (u : Int) := by
          rw [List.getElem?_eq_getElem ht0] at hh0
          injection hh0
        rw [e0, Nat.add_zero] at e1
        have CC := Lib.hid (closed_ok HCl.out (c := c) (d := d) (k := cy) (HRg5.out.keep HW8.out) (HSs5.out.keep HW8.out) HY.out HV.out rfl HSL.out (by omega))
        rw [hcls] at CC
        have hpos : decide ((0 : Int) < ((thrF g s u).length : Int)) = true := by simp; omega
        have HKm : Hid (if 0 < (thrF g s u).length ∧ (m = 0 ∨ (thrF g s u).length < m) then (thrF g s u).length = (girK g s (u + 1)).length else m = (girK g s (u + 1)).length) := Lib.hid (by
          rw [HK.out, ← HM.out]
          split <;> rename_i h
          · rfl
          · exact HM.out)
        clear hne hcl hh0 e0 hcls HM HK
        have HYh := HY
        clear HY
        generalize (thrF g s u).length = q at *
        go_wp2_with fail
        refine CC.out.mono ?_
        rintro e w9 ⟨rfl, hb9⟩
        have HW9 := Lib.hid (HW8.out.trans (hb9.mono HW8.out.size))
        clear hb9 CC HW8 HYh e1
        have hcase : (m = 0 ∧ True) ∨ (((m : Int) == 0) = false ∧ decide ((q : Int) < (m : Int)) = true ∧ q < m) ∨ (((m : Int) == 0) = false ∧ decide ((q : Int) < (m : Int)) = false ∧ ¬ q < m ∧ m ≠ 0) := by
          by_cases h1 : m = 0
          · exact .inl ⟨h1, trivial⟩
          · by_cases h2 : q < m
            · exact .inr (.inl ⟨by rw [beq_eq_false_iff_ne]; omega, by simp; omega, h2⟩)
            · exact .inr (.inr ⟨by rw [beq_eq_false_iff_ne]; omega, by simp; omega, h2, h1⟩)
        rcases hcase with ⟨rfl, _⟩ | ⟨h1, h2, h3⟩ | ⟨h1, h2, h3, h4⟩
        · have HM2 : Hid (q = (girK g s (u + 1)).length) := Lib.hid (by have h := HKm.out; rw [if_pos ⟨ht0, .inl rfl⟩] at h; exact h)
          clear HKm
          go_wp2
          go_roundw
          case rel => exact ⟨u + 1, q, rfl, by go_num, by omega, by omega, HM2, HW9⟩
          case measure => simp [intOf]; omega
        · have HM2 : Hid (q = (girK g s (u + 1)).length) := Lib.hid (by have h := HKm.out; rw [if_pos ⟨ht0, .inr h3⟩] at h; exact h)
          clear HKm
          go_wp2
          go_roundw
          case rel => exact ⟨u + 1, q, rfl, by go_num, by omega, by omega, HM2, HW9⟩
          case measure => simp [intOf]; omega
        · have HM2 : Hid (m = (girK g s (u + 1)).length) := Lib.hid (by have h := HKm.out; rw [if_neg (by omega)] at h; exact h)
          clear HKm
          go_wp2
          go_roundw
          case rel => exact ⟨u + 1, m, rfl, by go_num, by omega, hm25, HM2, HW9⟩
          case measure => simp [intOf]; omega
    · obtain rfl : u = g.length := by omega
      have HE : Hid (m = n) := Lib.hid (by rw [HM.out, hn.out]; rfl)
      have hq : ((n : Int) == (m : Int)) = true := by rw [HE.out]; simp
      clear HM hn HE
      go_wp2
      go_ret
      exact ⟨rfl, HB5.out.trans (HW.out.mono HB5.out.size)⟩
end Go.Proofs.Ytkgnblnhfjjjmaa
