/- ReachMutual returns true, if reach's functions keep what RhDev asks. -/
import Derived.Test.YtadcapeedjgeoaaRhBase
namespace Go.Proofs.Ytadcapeedjgeoaa
open Go Go.RowKit Fl

set_option maxRecDepth 100000 in
set_option maxHeartbeats 8000000 in
theorem reachMutual_c (hF : DevFrom) (hM : DevMutual) (hV : DevValid) (hR : DevReverse) (hW : DevWithout) (C : Option Addr) (k : Nat) (zs : List Int) (w : World) (hz : IntsAt w w.heap.size C zs) (hzl : zs.length ≤ maxLen) :
    Calls Try.prog 7 #[.slice C zs.length k] w fun e w' => e = .returned (.bool true) ∧ Below w.heap.size w w' := by
  have CK := Lib.hid (known4_c hF hM hV w)
  have HF := Lib.hid hF
  have HM := Lib.hid hM
  have HR := Lib.hid hR
  have HW := Lib.hid hW
  have HZ := Lib.hid hz
  have HL := Lib.hid hzl
  clear hF hM hV hR hW hz hzl
  go_enter Try.func7, Try.ntmps7
  go_wp2_with fail
  refine CK.out.mono ?_
  rintro e w1 ⟨rfl, hb1⟩
  have ht := tape_new (c := k) HZ.out (Nat.le_refl _) hb1 HL.out
  have hb2 : Below w.heap.size w (w1.alloc (.cells #[.slice C zs.length k, .int .i64 0] 28)) := hb1.alloc hb1.size _
  have HT2 := Lib.hid ht
  have hgB : w.heap.size ≤ w1.heap.size := hb1.size
  have HB2 := Lib.hid hb2
  have hsz2 : w1.heap.size < (w1.alloc (.cells #[.slice C zs.length k, .int .i64 0] 28)).heap.size := by simp
  clear hb1 ht hb2 CK HZ HL
  go_wp2_with fail
  refine (graph_c w.heap.size w1.heap.size _ 6 _ HT2.out (by omega) (by omega) hsz2).mono ?_
  rintro e w3 ⟨gv, g, rfl, hgl, hok, hown3, ht3, hst3⟩
  obtain ⟨A, c, rfl, _⟩ := hown3.at_
  have HV := Lib.hid (hok.valid (by omega))
  have HT3 := Lib.hid ht3
  have HO3 := Lib.hid hown3
  have HB3 := Lib.hid (HB2.out.trans (hst3.below HB2.out.size hgB))
  have hsz3 := Nat.lt_of_lt_of_le hsz2 hst3.size
  generalize w1.alloc (.cells #[.slice C zs.length k, .int .i64 0] 28) = w2 at *
  clear hok ht3 hown3 hst3 HT2 HB2
  go_wp2_with fail
  refine (shut_c w.heap.size w1.heap.size _ g.length w3 HT3.out (by omega) (by omega) hsz3).mono ?_
  rintro e w4 ⟨sv, s, rfl, hsl4, hos4, ht4, hst4⟩
  obtain ⟨B, d, rfl, hs4⟩ := own_is hos4
  have HSL := Lib.hid hsl4
  have HT4 := Lib.hid ht4
  have HO4 := Lib.hid (HO3.out.but hst4.grown hsz2)
  have HS4 := Lib.hid hos4
  have HB4 := Lib.hid (HB3.out.trans (hst4.below HB3.out.size hgB))
  have hsz4 := Nat.lt_of_lt_of_le hsz3 hst4.size
  clear HT3 HO3 HB3 hsl4 ht4 hos4 hs4 hst4
  have HRg : Hid (RowsAt w4 A g) := Lib.hid (by
    obtain ⟨A2, c2, h1, h2⟩ := HO4.out.at_
    injection h1 with h1
    subst h1
    exact h2)
  have HSs : Hid (Holds w4 B (s.map Bo)) := Lib.hid (by
    obtain ⟨A2, c2, h1, h2⟩ := own_is HS4.out
    injection h1 with h1
    subst h1
    exact h2)
  clear HW HT4 HO4 HS4 hgB hsz4
  go_wp2_with fail
  refine (mutual_ok HM.out HRg.out HSs.out HV.out rfl HSL.out).mono ?_
  rintro e w5 ⟨rfl, hb5⟩
  have HRg5 := Lib.hid (HRg.out.keep hb5)
  have HSs5 := Lib.hid (HSs.out.keep hb5)
  have HB5 := Lib.hid (HB4.out.trans (hb5.mono HB4.out.size))
  clear hb5 HRg HSs HB4
  go_wp2_with fail
  refine (reverse_ok HR.out HRg5.out HV.out rfl).mono ?_
  rintro e w6 ⟨R, cr, rfl, hr6, hb6⟩
  have HRg6 := Lib.hid (HRg5.out.keep hb6)
  have HSs6 := Lib.hid (HSs5.out.keep hb6)
  have HRv6 := Lib.hid hr6
  have HB6 := Lib.hid (HB5.out.trans (hb6.mono HB5.out.size))
  clear hb6 hr6 HRg5 HSs5 HB5
  obtain ⟨mb, HMB⟩ : ∃ mb, Hid (mutB g s = mb) := ⟨_, Lib.hid rfl⟩
  rw [HMB.out]
  go_wp2
  go_loop [10, 11] (fun f i => ∃ (j : Nat) (z z1 : Int), i = .int .i64 z1 ∧ z1 + 1 = j ∧ f = .int .i64 z ∧ -1 ≤ z ∧ j ≤ g.length ∧ Hid ((z = -1 ∧ ∀ u, j ≤ u → u < g.length → atB s u = true) ∨ ∃ a : Nat, z = a ∧ a < g.length ∧ atB s a = false)) (fun _ i => (intOf i + 1).toNat)
  case atStart => exact ⟨g.length, -1, (g.length : Int) - 1, by go_num, by omega, rfl, by omega, Nat.le_refl _, Lib.hid (.inl ⟨rfl, fun u h1 h2 => by omega⟩)⟩
  case round =>
    obtain ⟨j, z, z1, rfl, hz1, rfl, hzl, hj, HJ⟩ := hrel
    rcases j with _ | j
    · obtain rfl : z1 = -1 := by omega
      rcases HJ.out with ⟨rfl, hall⟩ | ⟨a, rfl, ha, ha0⟩
      · have HE : Hid (mb = false) := Lib.hid (by
          rw [← HMB.out]
          refine mutB_no fun h => ?_
          obtain ⟨⟨v, hv, hv0⟩, _⟩ := h.2
          rw [hall v (Nat.zero_le _) hv] at hv0
          cases hv0)
        clear HJ hall HMB
        go_wp2
        go_ret
        exact ⟨by rw [HE.out]; rfl, HB6.out⟩
      · have HA := Lib.hid ha0
        clear HJ ha0
        go_wp2_with fail
        refine (from_ok HF.out (v := a) HRg6.out HSs6.out HV.out rfl HSL.out ha).mono ?_
        rintro e w7 ⟨X1, c1, rfl, hx1, hb7⟩
        have HSs7 := Lib.hid (HSs6.out.keep hb7)
        have HRv7 := Lib.hid (HRv6.out.keep hb7)
        have HX7 := Lib.hid hx1
        have HB7 := Lib.hid (HB6.out.trans (hb7.mono HB6.out.size))
        clear hb7 hx1 HRg6 HSs6 HRv6 HB6
        go_wp2_with fail
        refine (from_ok HF.out (v := a) HRv7.out HSs7.out (revG_valid HV.out) (revG_length g) HSL.out ha).mono ?_
        rintro e w8 ⟨X2, c2, rfl, hx2, hb8⟩
        have HSs8 := Lib.hid (HSs7.out.keep hb8)
        have HX8 := Lib.hid (HX7.out.keep hb8)
        have HY8 := Lib.hid hx2
        have HB8 := Lib.hid (HB7.out.trans (hb8.mono HB7.out.size))
        clear hb8 hx2 HSs7 HRv7 HX7 HB7
        go_wp2
        go_loop [16, 17] (fun al i => ∃ (u : Nat) (b : Bool), al = .bool b ∧ i = .int .i64 u ∧ u ≤ g.length ∧ Hid (b = true ↔ ∀ v, v < u → atB s v = false → PathG g s a v ∧ PathG (revG g) s a v)) (fun _ i => g.length - (intOf i).toNat)
        case atStart => exact ⟨0, true, rfl, rfl, Nat.zero_le _, Lib.hid ⟨fun _ v hv => by omega, fun _ => rfl⟩⟩
        case round =>
          obtain ⟨u, b, rfl, rfl, hu, HJ⟩ := hrel
          by_cases hlt : u < g.length
          · have hsl : u < s.length := by have := HSL.out; omega
            obtain ⟨b1, o1, rfl, e1⟩ := marks_at HSs8.out hsl
            obtain ⟨b2, o2, p, rfl, e2, hp⟩ := reach_at rfl HX8.out hlt
            obtain ⟨b3, o3, q, rfl, e3, hq⟩ := reach_at (revG_length g) HY8.out hlt
            have HN : Hid ((b && (atB s u || (p && q))) = true ↔ ∀ v, v < u + 1 → atB s v = false → PathG g s a v ∧ PathG (revG g) s a v) := Lib.hid (by
              rw [Bool.and_eq_true, Bool.or_eq_true, Bool.and_eq_true, HJ.out, hp, hq]
              constructor
              · rintro ⟨h1, h2⟩ v hv hv0
                rcases Nat.lt_succ_iff_lt_or_eq.1 hv with h | rfl
                · exact h1 v h hv0
                · rcases h2 with h2 | h2
                  · rw [h2] at hv0; cases hv0
                  · exact h2
              · intro h
                refine ⟨fun v hv => h v (by omega), ?_⟩
                rcases e : atB s u with _ | _
                · exact .inr (h u (by omega) e)
                · exact .inl rfl)
            clear HJ hp hq hsl
            generalize atB s u = sv at *
            have hcase : b = false ∨ b = true ∧ sv = true ∨ b = true ∧ sv = false ∧ p = false ∨ b = true ∧ sv = false ∧ p = true ∧ q = false ∨ b = true ∧ sv = false ∧ p = true ∧ q = true := by
              rcases b with _ | _ <;> rcases sv with _ | _ <;> rcases p with _ | _ <;> rcases q with _ | _ <;> simp
            rcases hcase with rfl | ⟨rfl, rfl⟩ | ⟨rfl, rfl, rfl⟩ | ⟨rfl, rfl, rfl, rfl⟩ | ⟨rfl, rfl, rfl, rfl⟩
            all_goals
              go_wp2
              go_round
              case rel => exact ⟨u + 1, _, rfl, by go_num, by omega, HN⟩
              case measure => simp [intOf]; omega
          · obtain rfl : u = g.length := by omega
            have HE : Hid (mb = b) := Lib.hid (by
              rw [Bool.eq_iff_iff, HJ.out, ← HMB.out, mutB_iff, ← mutual_one HV.out ha HA.out]
              constructor
              · intro h; exact h.2.2
              · intro h; exact ⟨chkG_ok HV.out HSL.out, ⟨a, ha, HA.out⟩, h⟩)
            clear HJ HMB
            go_wp2
            go_ret
            exact ⟨by rw [HE.out]; simp, HB8.out⟩
    · obtain rfl : z1 = (j : Int) := by omega
      have hsl : j < s.length := by have := HSL.out; omega
      obtain ⟨b1, o1, rfl, e1⟩ := marks_at HSs6.out hsl
      rcases hs : atB s j with _ | _
      · rw [hs] at e1
        have HJ2 : Hid (((j : Int) = -1 ∧ ∀ u, j ≤ u → u < g.length → atB s u = true) ∨ ∃ a : Nat, (j : Int) = a ∧ a < g.length ∧ atB s a = false) := Lib.hid (.inr ⟨j, rfl, by omega, hs⟩)
        clear HJ hs hsl
        go_wp2
        go_round
        case rel => exact ⟨j, (j : Int), (j : Int) - 1, by go_num, by omega, rfl, by omega, by omega, HJ2⟩
        case measure => simp [intOf]
      · rw [hs] at e1
        have HJ2 : Hid ((z = -1 ∧ ∀ u, j ≤ u → u < g.length → atB s u = true) ∨ ∃ a : Nat, z = a ∧ a < g.length ∧ atB s a = false) := Lib.hid (by
          rcases HJ.out with ⟨h1, h2⟩ | h1
          · refine .inl ⟨h1, fun u hu1 hu2 => ?_⟩
            rcases Nat.eq_or_lt_of_le hu1 with rfl | h
            · exact hs
            · exact h2 u h hu2
          · exact .inr h1)
        clear HJ hs hsl
        go_wp2
        go_round
        case rel => exact ⟨j, z, (j : Int) - 1, by go_num, by omega, rfl, by omega, by omega, HJ2⟩
        case measure => simp [intOf]
end Go.Proofs.Ytadcapeedjgeoaa
