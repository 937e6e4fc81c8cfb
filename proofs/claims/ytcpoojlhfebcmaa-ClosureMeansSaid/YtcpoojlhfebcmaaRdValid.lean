/- Contracts of reach's validEdges, Valid and check, for all graphs. -/
import Derived.Test.YtcpoojlhfebcmaaGrValid
namespace Go.Proofs.Ytcpoojlhfebcmaa
open Go Go.RowKit Fl

/-- What the code keeps in 'last', when the first j elements are through. -/
def LastAt (r : List Int) (j : Nat) (L : Int) : Prop := (prevOf r j = none ∧ L = -1) ∨ (prevOf r j = some L ∧ 0 ≤ L)
theorem LastAt.start (r : List Int) : LastAt r 0 (-1) := .inl ⟨rfl, rfl⟩
theorem LastAt.next {r : List Int} {j : Nat} (hj : j < r.length) (h0 : 0 ≤ r[j]) : LastAt r (j + 1) r[j] := .inr ⟨by simp [prevOf, hj], h0⟩
theorem LastAt.test {r : List Int} {j : Nat} {L x n v : Int} (h : LastAt r j L) : (decide (0 ≤ x ∧ x < n ∧ x ≠ v) && overP (prevOf r j) x) = decide (L < x ∧ x < n ∧ x ≠ v) := by
  rcases h with ⟨h, rfl⟩ | ⟨h, h0⟩
  · rw [h]
    simp only [overP, Bool.and_true]
    exact decide_eq_decide.2 ⟨fun h => ⟨by omega, h.2⟩, fun h => ⟨by omega, h.2⟩⟩
  · rw [h]
    simp only [overP, ← Bool.decide_and]
    exact decide_eq_decide.2 ⟨fun h => ⟨h.2, h.1.2⟩, fun h => ⟨⟨by omega, h.2⟩, h.1⟩⟩
set_option maxRecDepth 100000 in
set_option maxHeartbeats 2000000 in
theorem devEdges_c (A : Option Addr) (c n k : Nat) (r : List Int) (w : World) (hh : Holds w A (r.map Iv)) (hl : r.length ≤ 1000000000000000000) :
    Calls Try.prog 53 #[.slice A r.length c, .int .i64 k, .int .i64 n] w fun e w' => e = .returned (.bool (rowOk n k none r)) ∧ w = w' := by
  have HH := Lib.hid hh
  clear hh
  go_enter Try.func53, Try.ntmps53
  go_wp2
  go_loop [7, 12] (fun l i => ∃ (j : Nat) (L : Int), j ≤ r.length ∧ l = .int .i64 L ∧ i = .int .i64 j ∧ Hid (LastAt r j L) ∧ Hid (rowOk n k none r = rowOk n k (prevOf r j) (r.drop j))) (fun _ i => r.length - (intOf i).toNat)
  case atStart => exact ⟨0, -1, Nat.zero_le _, rfl, rfl, Lib.hid (.start r), Lib.hid rfl⟩
  case round =>
    obtain ⟨j, L, hj, rfl, rfl, HL, HV⟩ := hrel
    by_cases hjt : j < r.length
    · obtain ⟨b, o, rfl, e1⟩ := HH.out.iv hjt
      have HS : Hid (rowOk n k none r = (decide (L < r[j] ∧ r[j] < n ∧ r[j] ≠ k) && rowOk n k (prevOf r (j + 1)) (r.drop (j + 1)))) := Lib.hid (by rw [HV.out, rowOk_step hjt, HL.out.test])
      have HN := Lib.hid (fun h => LastAt.next hjt h)
      have HLow : -1 ≤ L := by rcases HL.out with ⟨_, h⟩ | ⟨_, h⟩ <;> omega
      clear HL HV
      by_cases hin : L < r[j] ∧ r[j] < n ∧ r[j] ≠ k
      · have HV2 : Hid (rowOk n k none r = rowOk n k (prevOf r (j + 1)) (r.drop (j + 1))) := Lib.hid (by rw [HS.out, decide_eq_true hin, Bool.true_and])
        obtain ⟨h0, h1, h2⟩ := hin
        have HN2 := Lib.hid (HN.out (by omega))
        have hd1 : decide (r[j] ≤ L) = false := by simp; omega
        have hd2 : decide ((n : Int) ≤ r[j]) = false := by simp; omega
        have hd3 : (r[j] == (k : Int)) = false := by simpa using h2
        clear HS HN h0 h1 h2 HLow
        generalize r[j] = x at *
        go_wp2
        go_round
        case rel => exact ⟨j + 1, x, by omega, rfl, by go_num, HN2, HV2⟩
        case measure => simp [intOf]; omega
      · have HV2 : Hid (rowOk n k none r = false) := Lib.hid (by rw [HS.out, decide_eq_false hin, Bool.false_and])
        have hor : decide (r[j] ≤ L) = true ∨ decide (r[j] ≤ L) = false ∧ decide ((n : Int) ≤ r[j]) = true ∨ decide (r[j] ≤ L) = false ∧ decide ((n : Int) ≤ r[j]) = false ∧ (r[j] == (k : Int)) = true := by
          simp only [decide_eq_true_eq, decide_eq_false_iff_not, beq_iff_eq]
          omega
        clear HS HN hin HLow
        generalize r[j] = x at *
        rcases hor with hd1 | ⟨hd1, hd2⟩ | ⟨hd1, hd2, hd3⟩
        all_goals
          go_wp2
          go_ret
          exact ⟨gr_bool HV2.out.symm, rfl⟩
    · have HV2 : Hid (rowOk n k none r = true) := Lib.hid (by rw [HV.out, rowOk_end (by omega)])
      clear HV HL
      go_wp2
      go_ret
      exact ⟨gr_bool HV2.out.symm, rfl⟩
set_option maxRecDepth 100000 in
set_option maxHeartbeats 2000000 in
theorem devValid_c (A : Option Addr) (c : Nat) (g : GraphD) (w : World) (hh : RowsAt w A g) (hl : g.length ≤ 1000000000000000000) (hr : ∀ r ∈ g, r.length ≤ 1000000000000000000) :
    Calls Try.prog 43 #[.slice A g.length c] w fun e w' => e = .returned (.bool (validG g)) ∧ w = w' := by
  have HH := Lib.hid hh
  have HR := Lib.hid hr
  clear hh hr
  by_cases h24 : 24 < g.length
  · have HD : Hid (validG g = false) := Lib.hid (by unfold validG; rw [decide_eq_false (by omega)]; rfl)
    have hd : decide ((24 : Int) < (g.length : Int)) = true := by simp; omega
    go_enter Try.func43, Try.ntmps43
    go_wp2
    go_ret
    exact ⟨gr_bool HD.out.symm, rfl⟩
  · go_enter Try.func43, Try.ntmps43
    go_wp2
    go_loop [10] (fun v => ∃ k : Nat, k ≤ g.length ∧ v = .int .i64 k ∧ Hid (validG g = rowsOk g.length k (g.drop k))) (fun v => g.length - (intOf v).toNat)
    case atStart => exact ⟨0, Nat.zero_le _, rfl, Lib.hid (by unfold validG; rw [decide_eq_true (by omega), Bool.true_and]; rfl)⟩
    case round =>
      obtain ⟨k, hk, rfl, HV⟩ := hrel
      by_cases hlt : k < g.length
      · obtain ⟨b, o, A1, c1, rfl, e1, h1⟩ := HH.out.one hlt
        have HC := Lib.hid (devEdges_c A1 c1 g.length k g[k] w h1 (HR.out _ (List.getElem_mem hlt)))
        have HV1 : Hid (validG g = (rowOk g.length k none g[k] && rowsOk g.length ((k : Int) + 1) (g.drop (k + 1)))) := Lib.hid (by rw [HV.out, rowsOk_step hlt])
        clear HV h1
        rcases hro : rowOk g.length k none g[k] with _ | _
        · have HV2 : Hid (validG g = false) := Lib.hid (by rw [HV1.out, hro, Bool.false_and])
          rw [hro] at HC
          clear HV1 hro
          generalize g[k] = r at *
          go_wp2_with fail
          refine HC.out.mono ?_
          rintro e w1 ⟨rfl, rfl⟩
          go_wp2
          go_ret
          exact ⟨gr_bool HV2.out.symm, rfl⟩
        · have HV2 : Hid (validG g = rowsOk g.length ((k : Int) + 1) (g.drop (k + 1))) := Lib.hid (by rw [HV1.out, hro, Bool.true_and])
          rw [hro] at HC
          clear HV1 hro
          generalize g[k] = r at *
          go_wp2_with fail
          refine HC.out.mono ?_
          rintro e w1 ⟨rfl, rfl⟩
          go_wp2
          go_round
          case rel => exact ⟨k + 1, by omega, by go_num, Lib.hid (by rw [HV2.out]; rfl)⟩
          case measure => simp [intOf]; omega
      · have HV2 : Hid (validG g = true) := Lib.hid (by rw [HV.out, rowsOk_end (by omega)])
        clear HV
        go_wp2
        go_ret
        exact ⟨gr_bool HV2.out.symm, rfl⟩
theorem devCheck_c (A B : Option Addr) (c d m : Nat) (g : GraphD) (w : World) (hh : RowsAt w A g) (hl : g.length ≤ 1000000000000000000) (hr : ∀ r ∈ g, r.length ≤ 1000000000000000000) :
    Calls Try.prog 29 #[.slice A g.length c, .slice B m d] w fun e w' => e = .returned (.int .i64 (chkG g m)) ∧ w = w' := by
  have C := Lib.hid (devValid_c A c g w hh hl hr)
  clear hh hr
  rcases hv : validG g with _ | _
  · have HD : Hid (chkG g m = 20) := Lib.hid (by unfold chkG; rw [hv]; rfl)
    rw [hv] at C
    clear hv
    go_enter Try.func29, Try.ntmps29
    go_wp2_with fail
    refine C.out.mono ?_
    rintro e w1 ⟨rfl, rfl⟩
    go_wp2
    go_ret
    exact ⟨gr_int HD.out.symm, rfl⟩
  · rw [hv] at C
    by_cases hm : m = g.length
    · have HD : Hid (chkG g m = 0) := Lib.hid (by unfold chkG; rw [hv, hm]; simp)
      subst hm
      clear hv
      have hne : ((g.length : Int) != (g.length : Int)) = false := by simp
      go_enter Try.func29, Try.ntmps29
      go_wp2_with fail
      refine C.out.mono ?_
      rintro e w1 ⟨rfl, rfl⟩
      go_wp2
      go_ret
      exact ⟨gr_int HD.out.symm, rfl⟩
    · have HD : Hid (chkG g m = 19) := Lib.hid (by unfold chkG; rw [hv]; simp [hm])
      clear hv
      have hne : ((m : Int) != (g.length : Int)) = true := by rw [bne_iff_ne]; omega
      go_enter Try.func29, Try.ntmps29
      go_wp2_with fail
      refine C.out.mono ?_
      rintro e w1 ⟨rfl, rfl⟩
      go_wp2
      go_ret
      exact ⟨gr_int HD.out.symm, rfl⟩
end Go.Proofs.Ytcpoojlhfebcmaa
