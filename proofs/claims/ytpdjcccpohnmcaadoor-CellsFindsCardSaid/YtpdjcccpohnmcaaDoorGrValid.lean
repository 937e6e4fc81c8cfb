/- Contracts of the reference's Valid and Check of layer 4: a graph is valid; its first error. -/
import Derived.Test.YtpdjcccpohnmcaaDoorGrMem
namespace Go.Proofs.YtpdjcccpohnmcaaDoor
open Go Go.RowKit Fl

set_option maxRecDepth 100000 in
set_option maxHeartbeats 2000000 in
theorem refGValid_c (A : Option Addr) (c : Nat) (g : GraphD) (w : World) (hh : RowsAt w A g) (hl : g.length ≤ 1000000000000000000) (hr : ∀ r ∈ g, r.length ≤ 1000000000000000000) :
    Calls Tryd.prog 80 #[.slice A g.length c] w fun e w' => e = .returned (.bool (validG g)) ∧ w = w' := by
  have HH := Lib.hid hh
  have HR := Lib.hid hr
  clear hh hr
  by_cases h24 : 24 < g.length
  · have HD : Hid (validG g = false) := Lib.hid (by unfold validG; rw [decide_eq_false (by omega)]; rfl)
    have hd : decide ((24 : Int) < (g.length : Int)) = true := by simp; omega
    go_enter Tryd.func80, Tryd.ntmps80
    go_wp2
    go_ret
    exact ⟨gr_bool HD.out.symm, rfl⟩
  · go_enter Tryd.func80, Tryd.ntmps80
    go_wp2
    go_loop [3] (fun v => ∃ k : Nat, k ≤ g.length ∧ v = .int .i64 k ∧ Hid (validG g = rowsOk g.length k (g.drop k))) (fun v => g.length - (intOf v).toNat)
    case atStart => exact ⟨0, Nat.zero_le _, rfl, Lib.hid (by unfold validG; rw [decide_eq_true (by omega), Bool.true_and]; rfl)⟩
    case round =>
      obtain ⟨k, hk, rfl, HV⟩ := hrel
      by_cases hlt : k < g.length
      · obtain ⟨b, o, A1, c1, rfl, e1, h1⟩ := HH.out.one hlt
        have hrl := HR.out _ (List.getElem_mem hlt)
        have HV1 : Hid (validG g = (rowOk g.length k (prevOf g[k] 0) (g[k].drop 0) && rowsOk g.length ((k : Int) + 1) (g.drop (k + 1)))) := Lib.hid (by rw [HV.out, rowsOk_step hlt]; rfl)
        have H1 := Lib.hid h1
        clear HV h1
        generalize g[k] = r at *
        go_wp2
        go_loop [4] (fun v => ∃ j : Nat, j ≤ r.length ∧ v = .int .i64 j ∧ Hid (validG g = (rowOk g.length k (prevOf r j) (r.drop j) && rowsOk g.length ((k : Int) + 1) (g.drop (k + 1))))) (fun v => r.length - (intOf v).toNat)
        case atStart => exact ⟨0, Nat.zero_le _, rfl, HV1⟩
        case round =>
          clear HV1
          obtain ⟨j, hj, rfl, HV⟩ := hrel
          by_cases hjt : j < r.length
          · obtain ⟨b2, o2, rfl, e2⟩ := H1.out.iv hjt
            have HS : Hid (rowOk g.length k (prevOf r j) (r.drop j) = ((decide (0 ≤ r[j] ∧ r[j] < g.length ∧ r[j] ≠ k) && overP (prevOf r j) r[j]) && rowOk g.length k (prevOf r (j + 1)) (r.drop (j + 1)))) := Lib.hid (rowOk_step hjt)
            by_cases hin : 0 ≤ r[j] ∧ r[j] < g.length ∧ r[j] ≠ k
            · obtain ⟨hn0, hn1, hn2⟩ := hin
              have hd1 : decide (r[j] < 0) = false := by simp; omega
              have hd2 : decide ((g.length : Int) ≤ r[j]) = false := by simp; omega
              have hd3 : (r[j] == (k : Int)) = false := by simpa using hn2
              by_cases hj0 : j = 0
              · subst hj0
                have HV2 := Lib.hid (HV.out.trans (by rw [HS.out, decide_eq_true ⟨hn0, hn1, hn2⟩]; rfl : _ = (rowOk g.length k (prevOf r 1) (r.drop 1) && rowsOk g.length ((k : Int) + 1) (g.drop (k + 1)))))
                clear HS HV hn2
                generalize r[0] = x at *
                rw [Nat.add_zero] at e2
                go_wp2
                go_round
                case rel => exact ⟨1, by omega, by go_num, HV2⟩
                case measure => simp [intOf]; omega
              · have hjp : j - 1 < r.length := by omega
                obtain ⟨b3, o3, hA3, e3⟩ := H1.out.iv hjp
                obtain ⟨rfl, rfl⟩ : b2 = b3 ∧ o2 = o3 := by injection hA3 with h; injection h with h1 h2; exact ⟨h1, h2⟩
                clear hA3
                have hpv : prevOf r j = some r[j - 1] := by
                  obtain ⟨i, rfl⟩ : ∃ i, j = i + 1 := ⟨j - 1, by omega⟩
                  simp [prevOf]
                have hpos : 0 < j := by omega
                have hcast : (j : Int) - 1 = ((j - 1 : Nat) : Int) := by omega
                by_cases hlo : r[j - 1] < r[j]
                · have hd4 : decide (r[j] ≤ r[j - 1]) = false := by simp; omega
                  have HV2 := Lib.hid (HV.out.trans (by rw [HS.out, decide_eq_true ⟨hn0, hn1, hn2⟩, hpv, show overP (some r[j - 1]) r[j] = true by simpa [overP] using hlo]; rfl : _ = (rowOk g.length k (prevOf r (j + 1)) (r.drop (j + 1)) && rowsOk g.length ((k : Int) + 1) (g.drop (k + 1)))))
                  clear HS HV hn2 hpv hlo
                  generalize r[j] = x at *
                  generalize r[j - 1] = y at *
                  go_wp2
                  go_round
                  case rel => exact ⟨j + 1, by omega, by go_num, HV2⟩
                  case measure => simp [intOf]; omega
                · have hd4 : decide (r[j] ≤ r[j - 1]) = true := by simp; omega
                  have HV2 : Hid (validG g = false) := Lib.hid (by rw [HV.out, HS.out, hpv, show overP (some r[j - 1]) r[j] = false by simpa [overP] using hlo]; simp)
                  clear HS HV hn2 hpv hlo
                  generalize r[j] = x at *
                  generalize r[j - 1] = y at *
                  go_wp2
                  go_ret
                  exact ⟨gr_bool HV2.out.symm, rfl⟩
            · have HV2 : Hid (validG g = false) := Lib.hid (by rw [HV.out, HS.out, decide_eq_false hin]; rfl)
              clear HS HV
              have hor : decide (r[j] < 0) = true ∨ decide (r[j] < 0) = false ∧ decide ((g.length : Int) ≤ r[j]) = true ∨ decide (r[j] < 0) = false ∧ decide ((g.length : Int) ≤ r[j]) = false ∧ (r[j] == (k : Int)) = true := by
                simp only [decide_eq_true_eq, decide_eq_false_iff_not, beq_iff_eq]
                omega
              clear hin
              generalize r[j] = x at *
              rcases hor with hd1 | ⟨hd1, hd2⟩ | ⟨hd1, hd2, hd3⟩
              all_goals
                go_wp2
                go_ret
                exact ⟨gr_bool HV2.out.symm, rfl⟩
          · have HV2 := Lib.hid (HV.out.trans (by rw [rowOk_end (by omega), Bool.true_and] : _ = rowsOk g.length ((k : Int) + 1) (g.drop (k + 1))))
            clear HV
            go_wp2
            go_round
            case rel => exact ⟨k + 1, by omega, by go_num, Lib.hid (by rw [HV2.out]; rfl)⟩
            case measure => simp [intOf]; omega
      · have HV2 : Hid (validG g = true) := Lib.hid (by rw [HV.out, rowsOk_end (by omega)])
        clear HV
        go_wp2
        go_ret
        exact ⟨gr_bool HV2.out.symm, rfl⟩
/-- The first error of a graph with m shut marks. -/
def chkG (g : GraphD) (m : Nat) : Int := if validG g then (if m = g.length then 0 else 19) else 20
theorem refCheck_c (A B : Option Addr) (c d m : Nat) (g : GraphD) (w : World) (hh : RowsAt w A g) (hl : g.length ≤ 1000000000000000000) (hr : ∀ r ∈ g, r.length ≤ 1000000000000000000) :
    Calls Tryd.prog 69 #[.slice A g.length c, .slice B m d] w fun e w' => e = .returned (.int .i64 (chkG g m)) ∧ w = w' := by
  have C := Lib.hid (refGValid_c A c g w hh hl hr)
  clear hh hr
  rcases hv : validG g with _ | _
  · have HD : Hid (chkG g m = 20) := Lib.hid (by unfold chkG; rw [hv]; rfl)
    rw [hv] at C
    clear hv
    go_enter Tryd.func69, Tryd.ntmps69
    go_wp2_with fail
    refine C.out.mono ?_
    rintro e w1 ⟨rfl, rfl⟩
    go_wp2
    go_ret
    exact ⟨gr_int HD.out.symm, rfl⟩
  · rw [hv] at C
    by_cases hm : m = g.length
    · have HD : Hid (chkG g m = 0) := Lib.hid (by unfold chkG; rw [hv, hm]; simp)
      subst hm
      clear hv
      have hne : ((g.length : Int) != (g.length : Int)) = false := by simp
      go_enter Tryd.func69, Tryd.ntmps69
      go_wp2_with fail
      refine C.out.mono ?_
      rintro e w1 ⟨rfl, rfl⟩
      go_wp2
      go_ret
      exact ⟨gr_int HD.out.symm, rfl⟩
    · have HD : Hid (chkG g m = 19) := Lib.hid (by unfold chkG; rw [hv]; simp [hm])
      clear hv
      have hne : ((m : Int) != (g.length : Int)) = true := by rw [bne_iff_ne]; omega
      go_enter Tryd.func69, Tryd.ntmps69
      go_wp2_with fail
      refine C.out.mono ?_
      rintro e w1 ⟨rfl, rfl⟩
      go_wp2
      go_ret
      exact ⟨gr_int HD.out.symm, rfl⟩
end Go.Proofs.YtpdjcccpohnmcaaDoor
