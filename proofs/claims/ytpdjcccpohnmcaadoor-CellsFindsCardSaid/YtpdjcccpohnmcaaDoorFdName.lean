/- Contracts of fields.Name and of its reference: they report whether a string is a name. -/
import Derived.Test.YtpdjcccpohnmcaaDoorFdSmall
namespace Go.Proofs.YtpdjcccpohnmcaaDoor
open Go.RowKit Fl
attribute [local go_sem] bget

theorem all_snoc {l : List UInt8} {k : Nat} (h : k < l.length) {p : UInt8 → Bool} (h1 : (l.take k).all p = true) (h2 : p l[k] = true) : (l.take (k + 1)).all p = true := by
  rw [List.take_succ_eq_append_getElem h, List.all_append, h1]
  simp [h2]

set_option maxHeartbeats 1000000 in
theorem refName_c (l : List UInt8) (w : World) (hs : l.length ≤ maxLen) : Calls Tryd.prog 67 #[.string ⟨l.toArray⟩] w fun e w' => e = .returned (.bool (name l)) ∧ w = w' := by
  unfold maxLen at hs
  by_cases h1 : 1 ≤ l.length
  · have e1 : l ≠ [] := by intro e; subst e; simp at h1
    have e2 : l.isEmpty = false := by simpa using e1
    by_cases h2 : l.length ≤ 12
    · by_cases h3 : letterB l[0] = true
      · go_enter Tryd.func67, Tryd.ntmps67
        go_wp2_with (go_at_call 75; refine (blockwayref01_letter_c _ _).mono ?_; rintro e w' ⟨rfl, rfl⟩)
        go_loop [3] (fun i => ∃ k : Nat, k ≤ l.length ∧ i = .int .i64 k ∧ (l.take k).all nameByte = true) (fun i => l.length - (intOf i).toNat)
        case atStart => exact ⟨0, Nat.zero_le _, rfl, by simp⟩
        case round =>
          obtain ⟨k, hk, rfl, ha⟩ := hrel
          by_cases hlt : k < l.length
          · have HA := Lib.hid ha
            clear ha
            go_wp2_with (go_at_call 75; refine (blockwayref01_letter_c _ _).mono ?_; rintro e w' ⟨rfl, rfl⟩)
            all_goals first
              | (go_round
                 case rel => exact ⟨k + 1, by omega, by go_num, all_snoc hlt HA.out (by first | exact nameByte_letter ‹_› | exact nameByte_other (by (try simp only [bne_eq_false_iff_eq] at *); omega))⟩
                 case measure => simp [intOf]; omega)
              | (go_ret
                 exact ⟨ret_bool (name_bad hlt (nameByte_none (by simp_all) (by simp_all; omega))).symm, rfl⟩)
          · obtain rfl : k = l.length := by omega
            have hn := Lib.hid (name_good h1 h2 (by rw [head_of h1]; exact h3) (by simpa using ha))
            clear ha
            go_wp2
            go_ret
            exact ⟨ret_bool hn.out.symm, rfl⟩
      · have h4 : letterB l[0] = false := by simpa using h3
        clear h3
        go_enter Tryd.func67, Tryd.ntmps67
        go_wp2_with (go_at_call 75; refine (blockwayref01_letter_c _ _).mono ?_; rintro e w' ⟨rfl, rfl⟩)
        go_ret
        exact ⟨ret_bool (name_first h1 h4).symm, rfl⟩
    · go_enter Tryd.func67, Tryd.ntmps67
      go_wp2_with (go_at_call 75; refine (blockwayref01_letter_c _ _).mono ?_; rintro e w' ⟨rfl, rfl⟩)
      go_ret
      exact ⟨ret_bool (name_long h2).symm, rfl⟩
  · obtain rfl : l = [] := List.eq_nil_of_length_eq_zero (by omega)
    go_enter Tryd.func67, Tryd.ntmps67
    go_wp2_with (go_at_call 75; refine (blockwayref01_letter_c _ _).mono ?_; rintro e w' ⟨rfl, rfl⟩)
    go_ret
    exact ⟨ret_bool rfl, rfl⟩
set_option maxHeartbeats 1000000 in
theorem Name_c (l : List UInt8) (w : World) (hs : l.length ≤ maxLen) : Calls Tryd.prog 63 #[.string ⟨l.toArray⟩] w fun e w' => e = .returned (.bool (name l)) ∧ w = w' := by
  unfold maxLen at hs
  by_cases h1 : 1 ≤ l.length
  · have e1 : l ≠ [] := by intro e; subst e; simp at h1
    have e2 : l.isEmpty = false := by simpa using e1
    by_cases h2 : l.length ≤ 12
    · by_cases h3 : letterB l[0] = true
      · go_enter Tryd.func63, Tryd.ntmps63
        go_wp2_with (first | (go_at_call 71; refine (fields_isLetter_c _ _).mono ?_; rintro e w' ⟨rfl, rfl⟩) | (go_at_call 72; refine (fields_isDigit_c _ _).mono ?_; rintro e w' ⟨rfl, rfl⟩))
        go_loop [20] (fun i => ∃ k : Nat, k ≤ l.length ∧ i = .int .i64 k ∧ (l.take k).all nameByte = true) (fun i => l.length - (intOf i).toNat)
        case atStart => exact ⟨0, Nat.zero_le _, rfl, by simp⟩
        case round =>
          obtain ⟨k, hk, rfl, ha⟩ := hrel
          by_cases hlt : k < l.length
          · have HA := Lib.hid ha
            clear ha
            go_wp2_with (first | (go_at_call 71; refine (fields_isLetter_c _ _).mono ?_; rintro e w' ⟨rfl, rfl⟩) | (go_at_call 72; refine (fields_isDigit_c _ _).mono ?_; rintro e w' ⟨rfl, rfl⟩))
            all_goals first
              | (go_round
                 case rel => exact ⟨k + 1, by omega, by go_num, all_snoc hlt HA.out (by first | exact nameByte_letter ‹_› | exact nameByte_other (by (try simp only [bne_eq_false_iff_eq, digitB, decide_eq_true_eq] at *); omega))⟩
                 case measure => simp [intOf]; omega)
              | (go_ret
                 exact ⟨ret_bool (name_bad hlt (nameByte_none (by simp_all) (by simp_all [digitB]; omega))).symm, rfl⟩)
          · obtain rfl : k = l.length := by omega
            have hn := Lib.hid (name_good h1 h2 (by rw [head_of h1]; exact h3) (by simpa using ha))
            clear ha
            go_wp2
            go_ret
            exact ⟨ret_bool hn.out.symm, rfl⟩
      · have h4 : letterB l[0] = false := by simpa using h3
        clear h3
        go_enter Tryd.func63, Tryd.ntmps63
        go_wp2_with (first | (go_at_call 71; refine (fields_isLetter_c _ _).mono ?_; rintro e w' ⟨rfl, rfl⟩) | (go_at_call 72; refine (fields_isDigit_c _ _).mono ?_; rintro e w' ⟨rfl, rfl⟩))
        go_ret
        exact ⟨ret_bool (name_first h1 h4).symm, rfl⟩
    · go_enter Tryd.func63, Tryd.ntmps63
      go_wp2_with (first | (go_at_call 71; refine (fields_isLetter_c _ _).mono ?_; rintro e w' ⟨rfl, rfl⟩) | (go_at_call 72; refine (fields_isDigit_c _ _).mono ?_; rintro e w' ⟨rfl, rfl⟩))
      go_ret
      exact ⟨ret_bool (name_long h2).symm, rfl⟩
  · obtain rfl : l = [] := List.eq_nil_of_length_eq_zero (by omega)
    go_enter Tryd.func63, Tryd.ntmps63
    go_wp2_with (first | (go_at_call 71; refine (fields_isLetter_c _ _).mono ?_; rintro e w' ⟨rfl, rfl⟩) | (go_at_call 72; refine (fields_isDigit_c _ _).mono ?_; rintro e w' ⟨rfl, rfl⟩))
    go_ret
    exact ⟨ret_bool rfl, rfl⟩
end Go.Proofs.YtpdjcccpohnmcaaDoor
