/- GirthNone returns true, if girth's and components' functions keep what CgBase and ChBase ask. -/
import Derived.Test.YtkgnblnhfjjjmaaCgKnown
import Derived.Test.YtkgnblnhfjjjmaaCgFacts
namespace Go.Proofs.Ytkgnblnhfjjjmaa
open Go Go.RowKit Fl

set_option maxRecDepth 100000 in
set_option maxHeartbeats 8000000 in
theorem girthNone_c (hG : DevGirth) (hT : DevThrough) (hC : DevClosed) (hN : DevNames) (C : Option Addr) (k : Nat) (zs : List Int) (w : World) (hz : IntsAt w w.heap.size C zs) (hzl : zs.length ≤ maxLen) :
    Calls Try.prog 7 #[.slice C zs.length k] w fun e w' => e = .returned (.bool true) ∧ Below w.heap.size w w' := by
  have CK := Lib.hid (known6_c hG hT hC w)
  have HGi := Lib.hid hG
  have HTh := Lib.hid hT
  have HCl := Lib.hid hC
  have HN := Lib.hid hN
  have HZ := Lib.hid hz
  have HL := Lib.hid hzl
  clear hG hT hC hN hz hzl
  go_enter Try.func7, Try.ntmps7
  go_wp2_with fail
  refine CK.out.mono ?_
  rintro e w1 ⟨rfl, hb1⟩
  have ht := tape_new (c := k) HZ.out (Nat.le_refl _) hb1 HL.out
  have hb2 : Below w.heap.size w (w1.alloc (.cells #[.slice C zs.length k, .int .i64 0] 28)) := hb1.alloc hb1.size _
  have HT2 := Lib.hid ht
  have hgB : w.heap.size ≤ w1.heap.size := hb1.size
  have HB2 := Lib.hid hb2
  have hsz2 : w1.heap.size < (w1.alloc (.cells #[.slice C zs.length k, .int .i64 0] 28)).heap.size := by simp
  clear hb1 ht hb2 CK HZ HL
  go_wp2_with fail
  refine (graph_c w.heap.size w1.heap.size _ 9 _ HT2.out (by omega) (by omega) hsz2).mono ?_
  rintro e w3 ⟨gv, g, rfl, hgl, hok, hown3, ht3, hst3⟩
  obtain ⟨A, c, rfl, _⟩ := hown3.at_
  have HV := Lib.hid (hok.valid (by omega))
  have HT3 := Lib.hid ht3
  have HO3 := Lib.hid hown3
  have HB3 := Lib.hid (HB2.out.trans (hst3.below HB2.out.size hgB))
  have hsz3 := Nat.lt_of_lt_of_le hsz2 hst3.size
  generalize w1.alloc (.cells #[.slice C zs.length k, .int .i64 0] 28) = w2 at *
  clear hok ht3 hown3 hst3 HT2 HB2
  go_wp2_with fail
  refine (shut_c w.heap.size w1.heap.size _ g.length w3 HT3.out (by omega) (by omega) hsz3).mono ?_
  rintro e w4 ⟨sv, s, rfl, hsl4, hos4, ht4, hst4⟩
  obtain ⟨B, d, rfl, hs4⟩ := own_is hos4
  have HSL := Lib.hid hsl4
  have HT4 := Lib.hid ht4
  have HO4 := Lib.hid (HO3.out.but hst4.grown hsz2)
  have HS4 := Lib.hid hos4
  have HB4 := Lib.hid (HB3.out.trans (hst4.below HB3.out.size hgB))
  have hsz4 := Nat.lt_of_lt_of_le hsz3 hst4.size
  clear HT3 HO3 HB3 hsl4 ht4 hos4 hs4 hst4
  have HRg : Hid (RowsAt w4 A g) := Lib.hid (by
    obtain ⟨A2, c2, h1, h2⟩ := HO4.out.at_
    injection h1 with h1
    subst h1
    exact h2)
  have HSs : Hid (Holds w4 B (s.map Bo)) := Lib.hid (by
    obtain ⟨A2, c2, h1, h2⟩ := own_is HS4.out
    injection h1 with h1
    subst h1
    exact h2)
  clear HTh HCl HT4 HO4 HS4 hgB hsz4
  go_wp2_with fail
  refine (girth_ok HGi.out HRg.out HSs.out HV.out rfl HSL.out).mono ?_
  rintro e w5 ⟨X, cx, hcx, rfl, hx5, hb5⟩
  have HRg5 := Lib.hid (HRg.out.keep hb5)
  have HSs5 := Lib.hid (HSs.out.keep hb5)
  have HB5 := Lib.hid (HB4.out.trans (hb5.mono HB4.out.size))
  have HX5 := Lib.hid hx5
  clear hb5 hx5 HRg HSs HB4
  clear HX5
  go_wp2_with fail
  refine (names_ok HN.out HRg5.out HSs5.out HV.out rfl HSL.out).mono ?_
  rintro e w6 ⟨Y, cy, rfl, hy6, hb6⟩
  have HB6 := Lib.hid (HB5.out.trans (hb6.mono HB5.out.size))
  have HY6 := Lib.hid hy6
  have HNL := Lib.hid (namesL_length g s)
  clear hb6 hy6 HRg5 HSs5 HB5
  obtain ⟨n, hn⟩ : ∃ n, Hid (n = (girF g s).length) := ⟨_, Lib.hid rfl⟩
  rw [← hn.out]
  go_wp2
  go_loop [11, 12] (fun al i => ∃ (u : Nat) (b : Bool), al = .bool b ∧ i = .int .i64 u ∧ u ≤ g.length ∧ Hid (b = true ↔ ∀ v : Nat, v < u → nameOf g s v < 0 ∨ nameOf g s v = v)) (fun _ i => g.length - (intOf i).toNat)
  case atStart => exact ⟨0, true, rfl, rfl, Nat.zero_le _, Lib.hid ⟨fun _ v hv => by omega, fun _ => rfl⟩⟩
  case round =>
    obtain ⟨u, b, rfl, rfl, hu, HJ⟩ := hrel
    by_cases hlt : u < g.length
    · have hul : u < (namesL g s).length := by rw [HNL.out]; exact hlt
      obtain ⟨bn, on, rfl, e1⟩ := HY6.out.iv hul
      rw [namesL_at] at e1
      obtain ⟨z, hz⟩ : ∃ z, Hid (z = nameOf g s u) := ⟨_, Lib.hid rfl⟩
      rw [← hz.out] at e1
      have HNx : Hid ((b && (decide (z < 0) || (z == (u : Int)))) = true ↔ ∀ v : Nat, v < u + 1 → nameOf g s v < 0 ∨ nameOf g s v = v) := Lib.hid (by
        rw [Bool.and_eq_true, Bool.or_eq_true, HJ.out, decide_eq_true_eq, beq_iff_eq, hz.out]
        constructor
        · rintro ⟨h1, h2⟩ v hv
          rcases Nat.lt_succ_iff_lt_or_eq.1 hv with h | rfl
          · exact h1 v h
          · exact h2
        · intro h
          exact ⟨fun v hv => h v (by omega), h u (by omega)⟩)
      clear HJ hz
      have hcase : b = false ∨ b = true ∧ decide (z < 0) = true ∨ b = true ∧ decide (z < 0) = false ∧ (z == (u : Int)) = true ∨ b = true ∧ decide (z < 0) = false ∧ (z == (u : Int)) = false := by
        rcases b with _ | _ <;> rcases decide (z < 0) with _ | _ <;> rcases (z == (u : Int)) with _ | _ <;> simp
      rcases hcase with rfl | ⟨rfl, h1⟩ | ⟨rfl, h1, h2⟩ | ⟨rfl, h1, h2⟩
      · go_wp2
        go_round
        case rel => exact ⟨u + 1, false, rfl, by go_num, by omega, HNx⟩
        case measure => simp [intOf]; omega
      · rw [h1] at HNx
        go_wp2
        go_round
        case rel => exact ⟨u + 1, true, rfl, by go_num, by omega, HNx⟩
        case measure => simp [intOf]; omega
      · rw [h1, h2] at HNx
        go_wp2
        go_round
        case rel => exact ⟨u + 1, true, rfl, by go_num, by omega, HNx⟩
        case measure => simp [intOf]; omega
      · rw [h1, h2] at HNx
        go_wp2
        go_round
        case rel => exact ⟨u + 1, false, rfl, by go_num, by omega, HNx⟩
        case measure => simp [intOf]; omega
    · obtain rfl : u = g.length := by omega
      have hq : ((n : Int) == 0) = b := by
        rw [Bool.eq_iff_iff, HJ.out, ← gir_none HV.out, beq_iff_eq, hn.out]
        constructor
        · intro h; exact List.eq_nil_of_length_eq_zero (by omega)
        · intro h; rw [h]; rfl
      clear HJ hn
      go_wp2
      go_ret
      exact ⟨by simp, HB6.out⟩
end Go.Proofs.Ytkgnblnhfjjjmaa
