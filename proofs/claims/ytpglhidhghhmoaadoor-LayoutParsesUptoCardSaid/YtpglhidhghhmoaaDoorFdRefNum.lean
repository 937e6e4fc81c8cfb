/- Contracts of the reference's Number: it returns a number's value, or 0 and false, as fields.Number does. -/
import Derived.Test.YtpglhidhghhmoaaDoorFdNumber
namespace Go.Proofs.YtpglhidhghhmoaaDoor
open Go.RowKit Fl
attribute [local go_sem] bget

def Small (k v : Nat) : Prop := (k ≤ 0 → v ≤ 0) ∧ (k ≤ 1 → v ≤ 9) ∧ (k ≤ 2 → v ≤ 99) ∧ (k ≤ 3 → v ≤ 999) ∧ (k ≤ 4 → v ≤ 9999)
theorem Small.le {k v : Nat} (h : Small k v) (hk : k ≤ 4) : v ≤ 9999 := h.2.2.2.2 hk
theorem Small.next {k v c : Nat} (h : Small k v) (hk : k < 4) (hc : 48 ≤ c ∧ c ≤ 57) : Small (k + 1) (10 * v + (c - 48)) ∧ 10 * v + (c - 48) ≤ 9999 := by
  unfold Small at *; omega
theorem digitB_not {c : UInt8} (h : digitB c = false) : c.toNat < 48 ∨ 57 < c.toNat := by
  have h' : ¬ (48 ≤ c.toNat ∧ c.toNat ≤ 57) := by simpa [digitB] using h
  omega
theorem ext_tail (c : UInt8) (d : List UInt8) : (⟨(c :: d).toArray⟩ : ByteArray).extract 1 (d.length + 1) = ⟨d.toArray⟩ := by
  apply ByteArray.ext
  rw [ByteArray.data_extract]
  simp
theorem zero_cases {d : List UInt8} (hl : 0 < d.length) : ((d[0].toNat : Int) == 48) = false ∧ d.head? ≠ some 48 ∨ (((d[0].toNat : Int) == 48) = true ∧ d.head? = some 48) := by
  cases d with
  | nil => simp at hl
  | cons c r =>
    simp only [List.getElem_cons_zero, List.head?_cons, ne_eq, Option.some.injEq]
    by_cases e : c.toNat = 48
    · exact .inr ⟨by rw [e]; rfl, UInt8.toNat_inj.1 (by simpa using e)⟩
    · exact .inl ⟨by rw [beq_eq_false_iff_ne]; omega, fun h => e (by rw [h]; rfl)⟩
theorem minus_cases {d : List UInt8} (hl : 0 < d.length) (h : d.head? ≠ some 45) : ((d[0].toNat : Int) == 45) = false := by
  cases d with
  | nil => simp at hl
  | cons c r =>
    rw [beq_eq_false_iff_ne]
    intro e
    have e2 : c.toNat = 45 := by simp only [List.getElem_cons_zero] at e; omega
    exact h (by simp; exact UInt8.toNat_inj.1 (by simpa using e2))

set_option maxHeartbeats 2000000 in
theorem refNumber_pos (d : List UInt8) (w : World) (hs : d.length ≤ 9223372036854775000) (h : d.head? ≠ some 45) : Calls Tryd.prog 42 #[.string ⟨d.toArray⟩] w fun e w' => e = .returned (ret2 (num (d))) ∧ w = w' := by
  have HP := Lib.hid (num_pos h)
  by_cases h0 : d = []
  · subst h0
    clear h
    go_enter Tryd.func42, Tryd.ntmps42
    go_wp2
    go_ret2
    exact ⟨by rw [HP.out]; rfl, rfl⟩
  · have hl : 0 < d.length := List.length_pos_iff.2 h0
    have e1 : d.isEmpty = false := by simpa using h0
    have e2 := minus_cases hl h
    clear h
    by_cases h4 : 4 < d.length
    · have HN := Lib.hid (numOf_many (neg := false) (l := d) h4 (by simp))
      go_enter Tryd.func42, Tryd.ntmps42
      go_wp2
      go_ret2
      exact ⟨by rw [HP.out, HN.out]; rfl, rfl⟩
    · by_cases h1 : d.head? = some 48 ∧ (d) ≠ [48]
      · have h3 : ((d[0].toNat : Int) == 48) = true := by
          rcases zero_cases hl with h | h
          · exact absurd h1.1 h.2
          · exact h.1
        have h5 : 1 < d.length := by rcases Nat.lt_or_ge 1 d.length with h | h; exact h; exfalso; apply h1.2; cases d with | nil => simp at hl | cons c r => simp at h; subst h; have := h1.1; simp at this; rw [this]
        have HN := Lib.hid (numOf_zero (neg := false) h1.1 h1.2)
        clear h1
        
        all_goals
          go_enter Tryd.func42, Tryd.ntmps42
          go_wp2
          go_ret2
          exact ⟨by rw [HP.out, HN.out]; rfl, rfl⟩
      · have H1 := Lib.hid h1
        have hc : ((d[0].toNat : Int) == 48) = false ∨ ((d[0].toNat : Int) == 48) = true ∧ d.length = 1 := by
          rcases zero_cases hl with h | h
          · exact .inl h.1
          · exact .inr ⟨h.1, by rw [Decidable.byContradiction fun hne => h1 ⟨h.2, hne⟩]; rfl⟩
        clear h1
        rcases hc with h2 | ⟨h2, h3⟩
        all_goals (try replace h3 := (show d.length ≤ 1 by omega))
        all_goals
          go_enter Tryd.func42, Tryd.ntmps42
          go_wp2
          go_loop [5, 6] (fun n i => ∃ k v : Nat, k ≤ d.length ∧ i = .int .i64 k ∧ n = .int .i64 v ∧ Small k v ∧ Hid (digitsVal 0 d = digitsVal v (d.drop k))) (fun _ i => d.length - (intOf i).toNat)
          case atStart => exact ⟨0, 0, Nat.zero_le _, rfl, rfl, by unfold Small; omega, Lib.hid rfl⟩
          case round =>
            obtain ⟨k, v, hk, rfl, rfl, hv, HD⟩ := hrel
            by_cases hlt : k < d.length
            · by_cases hd : digitB d[k] = true
              · have hb := digitB_bounds hd
                have hg := hv.next (by omega) hb
                have hvl := hv.le (by omega)
                have HS := Lib.hid (digitsVal_step hlt hd hg.2)
                clear hd
                go_wp2
                go_round
                case rel => exact ⟨k + 1, 10 * v + (d[k].toNat - 48), by omega, by go_num, by congr 1; omega, hg.1, Lib.hid (HD.out.trans HS.out)⟩
                case measure => simp [intOf]; omega
              · have hd' : digitB d[k] = false := by simpa using hd
                have hb := digitB_not hd'
                have HN := Lib.hid (numOf_none (neg := false) (l := d) (HD.out.trans (digitsVal_bad hlt hd')))
                clear hd hd'
                rcases hb with hb | hb
                all_goals
                  go_wp2
                  go_ret2
                  exact ⟨by rw [HP.out, HN.out]; rfl, rfl⟩
            · have HN := Lib.hid (numOf_some (neg := false) h0 H1.out (HD.out.trans (by rw [List.drop_of_length_le (by omega)]; rfl)))
              have hvl := hv.le (by omega)
              go_wp2
              go_ret2
              exact ⟨by rw [HP.out, HN.out]; rfl, rfl⟩
set_option maxHeartbeats 2000000 in
theorem refNumber_neg (d : List UInt8) (w : World) (hs : d.length ≤ 9223372036854775000) : Calls Tryd.prog 42 #[.string ⟨(45 :: d).toArray⟩] w fun e w' => e = .returned (ret2 (num (45 :: d))) ∧ w = w' := by
  have HP := Lib.hid (num_neg d)
  have hx := ext_tail 45 d
  by_cases h0 : d = []
  · subst h0
    have hx0 := ext_tail 45 []
    go_enter Tryd.func42, Tryd.ntmps42
    go_wp2
    go_ret2
    exact ⟨by rw [HP.out]; rfl, rfl⟩
  · have hl : 0 < d.length := List.length_pos_iff.2 h0
    have e1 : d.isEmpty = false := by simpa using h0
    
    by_cases h4 : 4 < d.length
    · have HN := Lib.hid (numOf_many (neg := true) (l := 45 :: d) h4 (by simp))
      go_enter Tryd.func42, Tryd.ntmps42
      go_wp2
      go_ret2
      exact ⟨by rw [HP.out, HN.out]; rfl, rfl⟩
    · by_cases h1 : d.head? = some 48 ∧ (45 :: d) ≠ [48]
      · have h3 : ((d[0].toNat : Int) == 48) = true := by
          rcases zero_cases hl with h | h
          · exact absurd h1.1 h.2
          · exact h.1
        
        have HN := Lib.hid (numOf_zero (neg := true) h1.1 h1.2)
        clear h1
        rcases Nat.lt_or_ge 1 d.length with h5 | h5
        all_goals
          go_enter Tryd.func42, Tryd.ntmps42
          go_wp2
          go_ret2
          exact ⟨by rw [HP.out, HN.out]; rfl, rfl⟩
      · have H1 := Lib.hid h1
        have hc : ((d[0].toNat : Int) == 48) = false := by
          rcases zero_cases hl with h | h
          · exact h.1
          · exact absurd ⟨h.2, by simp⟩ h1
        clear h1
        have h2 := hc
        clear hc
        all_goals
          go_enter Tryd.func42, Tryd.ntmps42
          go_wp2
          go_loop [5, 6] (fun n i => ∃ k v : Nat, k ≤ d.length ∧ i = .int .i64 k ∧ n = .int .i64 v ∧ Small k v ∧ Hid (digitsVal 0 d = digitsVal v (d.drop k))) (fun _ i => d.length - (intOf i).toNat)
          case atStart => exact ⟨0, 0, Nat.zero_le _, rfl, rfl, by unfold Small; omega, Lib.hid rfl⟩
          case round =>
            obtain ⟨k, v, hk, rfl, rfl, hv, HD⟩ := hrel
            by_cases hlt : k < d.length
            · by_cases hd : digitB d[k] = true
              · have hb := digitB_bounds hd
                have hg := hv.next (by omega) hb
                have hvl := hv.le (by omega)
                have HS := Lib.hid (digitsVal_step hlt hd hg.2)
                clear hd
                go_wp2
                go_round
                case rel => exact ⟨k + 1, 10 * v + (d[k].toNat - 48), by omega, by go_num, by congr 1; omega, hg.1, Lib.hid (HD.out.trans HS.out)⟩
                case measure => simp [intOf]; omega
              · have hd' : digitB d[k] = false := by simpa using hd
                have hb := digitB_not hd'
                have HN := Lib.hid (numOf_none (neg := true) (l := 45 :: d) (HD.out.trans (digitsVal_bad hlt hd')))
                clear hd hd'
                rcases hb with hb | hb
                all_goals
                  go_wp2
                  go_ret2
                  exact ⟨by rw [HP.out, HN.out]; rfl, rfl⟩
            · have HN := Lib.hid (numOf_some (neg := true) h0 H1.out (HD.out.trans (by rw [List.drop_of_length_le (by omega)]; rfl)))
              have hvl := hv.le (by omega)
              go_wp2
              go_ret2
              exact ⟨by rw [HP.out, HN.out]; rfl, rfl⟩
theorem refNumber_c (l : List UInt8) (w : World) (hs : l.length ≤ 9223372036854775000) : Calls Tryd.prog 42 #[.string ⟨l.toArray⟩] w fun e w' => e = .returned (ret2 (num l)) ∧ w = w' := by
  by_cases h : l.head? = some 45
  · cases l with
    | nil => simp at h
    | cons c r =>
      obtain rfl : c = 45 := by simpa using h
      exact refNumber_neg r w (by simp at hs; omega)
  · exact refNumber_pos l w hs h
end Go.Proofs.YtpglhidhghhmoaaDoor
