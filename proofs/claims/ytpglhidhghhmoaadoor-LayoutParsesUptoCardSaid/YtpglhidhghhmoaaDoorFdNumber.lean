/- Contracts of fields.Number: it returns a number's value, or 0 and false. -/
import Derived.Test.YtpglhidhghhmoaaDoorFdSmall
import Derived.Test.YtpglhidhghhmoaaDoorShelf
namespace Go.Proofs.YtpglhidhghhmoaaDoor
open Go.RowKit Fl
attribute [local go_sem] bget

theorem digitB_bounds {c : UInt8} (h : digitB c = true) : 48 ≤ c.toNat ∧ c.toNat ≤ 57 := by simpa [digitB] using h
theorem cutMinus_yes (d : List UInt8) (w : World) : Calls Tryd.prog 61 #[.string ⟨(45 :: d).toArray⟩, .string ⟨#[45]⟩] w fun e w' => e = .returned (.tuple #[.string ⟨d.toArray⟩, .bool true]) ∧ w = w' :=
  (Tryd.strings_CutPrefix ⟨(45 :: d).toArray⟩ ⟨#[45]⟩ w).mono fun e w' ⟨he, hw⟩ => ⟨by rw [he]; simp [Lib.trimPrefix, Lib.hasPrefix], hw.symm⟩
theorem cutMinus_no (l : List UInt8) (w : World) (h : l.head? ≠ some 45) : Calls Tryd.prog 61 #[.string ⟨l.toArray⟩, .string ⟨#[45]⟩] w fun e w' => e = .returned (.tuple #[.string ⟨l.toArray⟩, .bool false]) ∧ w = w' :=
  (Tryd.strings_CutPrefix ⟨l.toArray⟩ ⟨#[45]⟩ w).mono fun e w' ⟨he, hw⟩ => ⟨by
    rw [he]
    have hp : Lib.hasPrefix l [45] = false := by
      cases l with
      | nil => rfl
      | cons c r => simp at h; simp [Lib.hasPrefix, List.isPrefixOf, Ne.symm h]
    simp [Lib.trimPrefix, hp], hw.symm⟩
theorem first_cases {l d : List UInt8} (hl : 0 < d.length) (h1 : ¬ (d.head? = some 48 ∧ l ≠ [48])) : ((d[0].toNat : Int) == 48) = false ∨ (((d[0].toNat : Int) == 48) = true ∧ (l == [48]) = true) := by
  by_cases e : d[0].toNat = 48
  · refine .inr ⟨by rw [e]; rfl, beq_iff_eq.2 (Decidable.byContradiction fun hne => h1 ⟨?_, hne⟩)⟩
    cases d with
    | nil => simp at hl
    | cons c r => simp at e ⊢; exact UInt8.toNat_inj.1 (by simpa using e)
  · left; rw [beq_eq_false_iff_ne]; omega

set_option maxHeartbeats 2000000 in
theorem Number_pos (d : List UInt8) (w : World) (hs : d.length ≤ 9223372036854775000) (h : d.head? ≠ some 45) : Calls Tryd.prog 53 #[.string ⟨d.toArray⟩] w fun e w' => e = .returned (ret2 (num (d))) ∧ w = w' := by
  have C := Lib.hid (cutMinus_no d w h)
  have HP := Lib.hid (num_pos h)
  clear h
  by_cases h0 : d = []
  · subst h0
    go_enter Tryd.func53, Tryd.ntmps53
    go_wp2_with (first | (go_at_call 61; refine (C.out).mono ?_; rintro e w' ⟨rfl, rfl⟩) | (go_at_call 60; refine (fields_isDigit_c _ _).mono ?_; rintro e w' ⟨rfl, rfl⟩))
    go_ret2
    exact ⟨by rw [HP.out]; rfl, rfl⟩
  · have hl : 0 < d.length := List.length_pos_iff.2 h0
    have e1 : d.isEmpty = false := by simpa using h0
    by_cases h1 : d.head? = some 48 ∧ (d) ≠ [48]
    · have h2 : d[0] = 48 := by obtain ⟨h1, _⟩ := h1; cases d with
        | nil => simp at h0
        | cons c r => simpa using h1
      have h3 : ((d[0].toNat : Int) == 48) = true := by rw [h2]; rfl
      have h4 : ((d) == [48]) = false := beq_eq_false_iff_ne.2 h1.2
      have HN := Lib.hid (numOf_zero (neg := false) h1.1 h1.2)
      clear h1 h2
      go_enter Tryd.func53, Tryd.ntmps53
      go_wp2_with (first | (go_at_call 61; refine (C.out).mono ?_; rintro e w' ⟨rfl, rfl⟩) | (go_at_call 60; refine (fields_isDigit_c _ _).mono ?_; rintro e w' ⟨rfl, rfl⟩))
      go_ret2
      exact ⟨by rw [HP.out, HN.out]; rfl, rfl⟩
    · have hc := first_cases hl h1
      have H1 := Lib.hid h1
      clear h1
      rcases hc with h2 | ⟨h2, h3⟩
      
      all_goals
        go_enter Tryd.func53, Tryd.ntmps53
        go_wp2_with (first | (go_at_call 61; refine (C.out).mono ?_; rintro e w' ⟨rfl, rfl⟩) | (go_at_call 60; refine (fields_isDigit_c _ _).mono ?_; rintro e w' ⟨rfl, rfl⟩))
        go_loop [26, 6, 7] (fun i n _ => ∃ k v : Nat, k ≤ d.length ∧ i = .int .i64 k ∧ n = .int .i64 v ∧ v ≤ 9999 ∧ Hid (digitsVal 0 d = digitsVal v (d.drop k))) (fun i _ _ => d.length - (intOf i).toNat)
        case atStart => exact ⟨0, 0, Nat.zero_le _, rfl, rfl, by omega, Lib.hid rfl⟩
        case round =>
          obtain ⟨k, v, hk, rfl, rfl, hv, HD⟩ := hrel
          by_cases hlt : k < d.length
          · by_cases hd : digitB d[k] = true
            · have hb := digitB_bounds hd
              by_cases hg : 10 * v + (d[k].toNat - 48) ≤ 9999
              · have HS := Lib.hid (digitsVal_step hlt hd hg)
                go_wp2_with (go_at_call 60; refine (fields_isDigit_c _ _).mono ?_; rintro e w' ⟨rfl, rfl⟩)
                go_round
                case rel => exact ⟨k + 1, 10 * v + (d[k].toNat - 48), by omega, by go_num, by congr 1; omega, hg, Lib.hid (HD.out.trans HS.out)⟩
                case measure => simp [intOf]; omega
              · have HN := Lib.hid (numOf_none (neg := false) (l := d) (HD.out.trans (digitsVal_big hlt (by omega))))
                go_wp2_with (go_at_call 60; refine (fields_isDigit_c _ _).mono ?_; rintro e w' ⟨rfl, rfl⟩)
                go_ret2
                exact ⟨by rw [HP.out, HN.out]; rfl, rfl⟩
            · have hd' : digitB d[k] = false := by simpa using hd
              clear hd
              have HN := Lib.hid (numOf_none (neg := false) (l := d) (HD.out.trans (digitsVal_bad hlt hd')))
              go_wp2_with (go_at_call 60; refine (fields_isDigit_c _ _).mono ?_; rintro e w' ⟨rfl, rfl⟩)
              go_ret2
              exact ⟨by rw [HP.out, HN.out]; rfl, rfl⟩
          · have HN := Lib.hid (numOf_some (neg := false) h0 H1.out (HD.out.trans (by rw [List.drop_of_length_le (by omega)]; rfl)))
            go_wp2
            go_ret2
            exact ⟨by rw [HP.out, HN.out]; rfl, rfl⟩
set_option maxHeartbeats 2000000 in
theorem Number_neg (d : List UInt8) (w : World) (hs : d.length ≤ 9223372036854775000) : Calls Tryd.prog 53 #[.string ⟨(45 :: d).toArray⟩] w fun e w' => e = .returned (ret2 (num (45 :: d))) ∧ w = w' := by
  have C := Lib.hid (cutMinus_yes d w)
  have HP := Lib.hid (num_neg d)
  by_cases h0 : d = []
  · subst h0
    go_enter Tryd.func53, Tryd.ntmps53
    go_wp2_with (first | (go_at_call 61; refine (C.out).mono ?_; rintro e w' ⟨rfl, rfl⟩) | (go_at_call 60; refine (fields_isDigit_c _ _).mono ?_; rintro e w' ⟨rfl, rfl⟩))
    go_ret2
    exact ⟨by rw [HP.out]; rfl, rfl⟩
  · have hl : 0 < d.length := List.length_pos_iff.2 h0
    have e1 : d.isEmpty = false := by simpa using h0
    by_cases h1 : d.head? = some 48 ∧ (45 :: d) ≠ [48]
    · have h2 : d[0] = 48 := by obtain ⟨h1, _⟩ := h1; cases d with
        | nil => simp at h0
        | cons c r => simpa using h1
      have h3 : ((d[0].toNat : Int) == 48) = true := by rw [h2]; rfl
      have h4 : ((45 :: d) == [48]) = false := beq_eq_false_iff_ne.2 h1.2
      have HN := Lib.hid (numOf_zero (neg := true) h1.1 h1.2)
      clear h1 h2
      go_enter Tryd.func53, Tryd.ntmps53
      go_wp2_with (first | (go_at_call 61; refine (C.out).mono ?_; rintro e w' ⟨rfl, rfl⟩) | (go_at_call 60; refine (fields_isDigit_c _ _).mono ?_; rintro e w' ⟨rfl, rfl⟩))
      go_ret2
      exact ⟨by rw [HP.out, HN.out]; rfl, rfl⟩
    · have hc := first_cases hl h1
      have H1 := Lib.hid h1
      clear h1
      rcases hc with h2 | ⟨h2, h3⟩
      rotate_left
      · exact absurd h3 (by simp)
      all_goals
        go_enter Tryd.func53, Tryd.ntmps53
        go_wp2_with (first | (go_at_call 61; refine (C.out).mono ?_; rintro e w' ⟨rfl, rfl⟩) | (go_at_call 60; refine (fields_isDigit_c _ _).mono ?_; rintro e w' ⟨rfl, rfl⟩))
        go_loop [26, 6, 7] (fun i n _ => ∃ k v : Nat, k ≤ d.length ∧ i = .int .i64 k ∧ n = .int .i64 v ∧ v ≤ 9999 ∧ Hid (digitsVal 0 d = digitsVal v (d.drop k))) (fun i _ _ => d.length - (intOf i).toNat)
        case atStart => exact ⟨0, 0, Nat.zero_le _, rfl, rfl, by omega, Lib.hid rfl⟩
        case round =>
          obtain ⟨k, v, hk, rfl, rfl, hv, HD⟩ := hrel
          by_cases hlt : k < d.length
          · by_cases hd : digitB d[k] = true
            · have hb := digitB_bounds hd
              by_cases hg : 10 * v + (d[k].toNat - 48) ≤ 9999
              · have HS := Lib.hid (digitsVal_step hlt hd hg)
                go_wp2_with (go_at_call 60; refine (fields_isDigit_c _ _).mono ?_; rintro e w' ⟨rfl, rfl⟩)
                go_round
                case rel => exact ⟨k + 1, 10 * v + (d[k].toNat - 48), by omega, by go_num, by congr 1; omega, hg, Lib.hid (HD.out.trans HS.out)⟩
                case measure => simp [intOf]; omega
              · have HN := Lib.hid (numOf_none (neg := true) (l := 45 :: d) (HD.out.trans (digitsVal_big hlt (by omega))))
                go_wp2_with (go_at_call 60; refine (fields_isDigit_c _ _).mono ?_; rintro e w' ⟨rfl, rfl⟩)
                go_ret2
                exact ⟨by rw [HP.out, HN.out]; rfl, rfl⟩
            · have hd' : digitB d[k] = false := by simpa using hd
              clear hd
              have HN := Lib.hid (numOf_none (neg := true) (l := 45 :: d) (HD.out.trans (digitsVal_bad hlt hd')))
              go_wp2_with (go_at_call 60; refine (fields_isDigit_c _ _).mono ?_; rintro e w' ⟨rfl, rfl⟩)
              go_ret2
              exact ⟨by rw [HP.out, HN.out]; rfl, rfl⟩
          · have HN := Lib.hid (numOf_some (neg := true) h0 H1.out (HD.out.trans (by rw [List.drop_of_length_le (by omega)]; rfl)))
            go_wp2
            go_ret2
            exact ⟨by rw [HP.out, HN.out]; rfl, rfl⟩
theorem Number_c (l : List UInt8) (w : World) (hs : l.length ≤ 9223372036854775000) : Calls Tryd.prog 53 #[.string ⟨l.toArray⟩] w fun e w' => e = .returned (ret2 (num l)) ∧ w = w' := by
  by_cases h : l.head? = some 45
  · cases l with
    | nil => simp at h
    | cons c r =>
      obtain rfl : c = 45 := by simpa using h
      exact Number_neg r w (by simp at hs; omega)
  · exact Number_pos l w hs h
end Go.Proofs.YtpglhidhghhmoaaDoor
