/- Contract of the verifier's SameStrings: it reports whether two lists of strings are the same. -/
import Derived.Test.YtpglhidhghhmoaaDoorFdLines
namespace Go.Proofs.YtpglhidhghhmoaaDoor
open Go.RowKit Fl
attribute [local go_sem] bget

theorem take_snoc_eq {a b : List (List UInt8)} {k : Nat} (h : k < a.length) (h2 : k < b.length) (ht : a.take k = b.take k) (he : a[k] = b[k]) : a.take (k + 1) = b.take (k + 1) := by
  rw [List.take_succ_eq_append_getElem h, List.take_succ_eq_append_getElem h2, ht, he]
theorem ne_of_getElem {α : Type} {a b : List α} {k : Nat} (h : k < a.length) (h2 : k < b.length) (he : a[k] ≠ b[k]) : a ≠ b := by
  rintro rfl; exact he rfl

set_option maxRecDepth 100000 in
set_option maxHeartbeats 1000000 in
theorem sameStrings_c (A1 A2 : Option Addr) (c1 c2 : Nat) (s1 s2 : List (List UInt8)) (w : World) (h1 : Holds w A1 (s1.map S)) (h2 : Holds w A2 (s2.map S)) (hl1 : s1.length ≤ 1000000000) (hl2 : s2.length ≤ 1000000000) :
    Calls Tryd.prog 22 #[.slice A1 s1.length c1, .slice A2 s2.length c2] w fun e w' => e = .returned (.bool (decide (s1 = s2))) ∧ ∃ n, w' = w.drewN n := by
  by_cases hlen : s1.length = s2.length
  · have H1 := Lib.hid h1
    have H2 := Lib.hid h2
    clear h1 h2
    have hle : s1.length ≤ s2.length := by omega
    have hge : s2.length ≤ s1.length := by omega
    have hne : ((s1.length : Int) != (s2.length : Int)) = false := by rw [hlen]; simp
    have HLen := Lib.hid hlen
    clear hlen
    go_enter Tryd.func22, Tryd.ntmps22
    go_wp2
    go_loopw [5] (fun i wr => ∃ k n : Nat, i = .int .i64 k ∧ k ≤ s1.length ∧ wr = w.drewN n ∧ Hid (s1.take k = s2.take k)) (fun i _ => s1.length - (intOf i).toNat)
    case atStart => exact ⟨0, 0, rfl, Nat.zero_le _, rfl, Lib.hid (by simp)⟩
    case round =>
      obtain ⟨k, n, rfl, hk, rfl, HT⟩ := hrel
      by_cases hlt : k < s1.length
      · obtain ⟨b1, o1, rfl, _, hc1⟩ := H1.out.at_ (by simp; omega)
        obtain ⟨b2, o2, rfl, _, hc2⟩ := H2.out.at_ (by simp; omega)
        have hlt2 : k < s2.length := by omega
        have e1 : w.cell? ⟨b1, o1 + k, none⟩ = some (S s1[k]) := by rw [hc1 k (by simpa using hlt)]; simp
        have e2 : w.cell? ⟨b2, o2 + k, none⟩ = some (S s2[k]) := by rw [hc2 k (by simpa using hlt2)]; simp
        clear hc1 hc2 H1 H2
        by_cases he : s1[k] = s2[k]
        · have HS := Lib.hid (take_snoc_eq hlt hlt2 HT.out he)
          have heq : (s1[k] == s2[k]) = true := by rw [he]; simp
          have hneq : (s1[k] != s2[k]) = false := by rw [he]; simp
          clear he HT
          generalize s1[k] = x at *
          generalize s2[k] = y at *
          go_wp2
          go_quiet (fail)
          go_wp2
          go_roundw
          case rel => exact ⟨k + 1, _, by go_num, by omega, rfl, HS⟩
          case measure => simp [intOf]; omega
        · have HD : Hid (decide (s1 = s2) = false) := Lib.hid (by rw [decide_eq_false_iff_not]; exact ne_of_getElem hlt hlt2 he)
          have heq : (s1[k] == s2[k]) = false := by rw [beq_eq_false_iff_ne]; exact he
          have hneq : (s1[k] != s2[k]) = true := by rw [bne_iff_ne]; exact he
          clear he HT
          generalize s1[k] = x at *
          generalize s2[k] = y at *
          go_wp2
          go_quiet (fail)
          go_wp2
          go_ret
          exact ⟨ret_bool HD.out.symm, _, World.drewN_drewN _ _ _⟩
      · have HD : Hid (decide (s1 = s2) = true) := Lib.hid (by
          have ht := HT.out
          rw [List.take_of_length_le (by omega), List.take_of_length_le (by omega)] at ht
          rw [ht]; simp)
        clear H1 H2
        go_wp2
        go_ret
        exact ⟨ret_bool HD.out.symm, n, rfl⟩
  · have HD : Hid (decide (s1 = s2) = false) := Lib.hid (by rw [decide_eq_false_iff_not]; rintro rfl; exact hlen rfl)
    have hne : ((s1.length : Int) != (s2.length : Int)) = true := by rw [bne_iff_ne]; omega
    clear h1 h2
    go_enter Tryd.func22, Tryd.ntmps22
    go_wp2
    go_ret
    exact ⟨ret_bool HD.out.symm, 0, rfl⟩
end Go.Proofs.YtpglhidhghhmoaaDoor
