/- Cut, with the number that it returns. -/
import Derived.Test.YtpiofjhcagdklaaTape
namespace Go.Proofs.Ytpiofjhcagdklaa
open Go.RowKit

def cutN (v : Int) (n : Nat) : Nat := if n ≤ 1 then 0 else (v % n).toNat
theorem cutN_lt {v : Int} {n : Nat} (h : 1 ≤ n) : cutN v n < n := by
  unfold cutN
  split
  · omega
  · have h1 : 0 ≤ v % (n : Int) := Int.emod_nonneg v (by omega)
    have h2 : v % (n : Int) < n := Int.emod_lt_of_pos v (by omega)
    omega
theorem cutN_c (v : Int) (n : Nat) (w : World) (h1 : 1 ≤ n) (hn : n ≤ 1000000) (hv1 : -9223372036854775808 ≤ v) (hv2 : v ≤ 9223372036854775807) : Calls Try.prog 6 #[.int .i64 v, .int .i64 n] w fun e w' => e = .returned (.int .i64 (cutN v n)) ∧ w = w' := by
  by_cases h : n ≤ 1
  · have HC : Hid (cutN v n = 0) := Lib.hid (by unfold cutN; rw [if_pos h])
    have h' : (n : Int) ≤ 1 := by omega
    clear h
    go_enter Try.func6, Try.ntmps6
    go_wp2
    go_ret
    exact ⟨by rw [HC.out]; rfl, rfl⟩
  · have HC : Hid (cutN v n = (v % (n : Int)).toNat) := Lib.hid (by unfold cutN; rw [if_neg h])
    have hlo : -(n : Int) < v.tmod n := by have := Int.lt_tmod_of_pos v (show (0 : Int) < n by omega); omega
    have hhi : v.tmod n < n := Int.tmod_lt_of_pos v (by omega)
    have hnn : 0 ≤ v % (n : Int) := Int.emod_nonneg v (by omega)
    have h' : ¬ (n : Int) ≤ 1 := by omega
    clear h
    by_cases h0 : 0 ≤ v
    · have e0 : v.tmod n = v % n := Int.tmod_eq_emod_of_nonneg h0
      rw [e0] at hlo hhi
      clear e0
      go_enter Try.func6, Try.ntmps6
      go_wp2
      go_ret
      exact ⟨by rw [HC.out, Int.toNat_of_nonneg hnn]; rfl, rfl⟩
    · have h0' : v < 0 := by omega
      clear h0
      have hem := Int.emod_lt_of_pos v (show (0 : Int) < n by omega)
      have hd1 := Int.tmod_add_mul_tdiv v n
      have hd2 := Int.emod_add_mul_ediv v n
      have hmod : v % (n : Int) = if v.tmod n < 0 then v.tmod n + n else v.tmod n := by
        have hx : (v.tmod n - v % n) = n * (v / n - v.tdiv n) := by rw [Int.mul_sub]; omega
        have hk : v / n - v.tdiv n = -1 ∨ v / n - v.tdiv n = 0 ∨ v / n - v.tdiv n = 1 := by
          generalize v / (n : Int) - v.tdiv n = k at hx
          have k1 : k < 2 := by
            by_cases h : k < 2
            · exact h
            · have := Int.mul_le_mul_of_nonneg_left (show (2 : Int) ≤ k by omega) (show (0 : Int) ≤ n by omega); omega
          have k2 : -2 < k := by
            by_cases h : -2 < k
            · exact h
            · have := Int.mul_le_mul_of_nonneg_left (show k ≤ (-2 : Int) by omega) (show (0 : Int) ≤ n by omega); omega
          omega
        rcases hk with hk | hk | hk <;> rw [hk] at hx <;> split <;> omega
      by_cases hm : v.tmod n < 0
      · rw [if_pos hm] at hmod
        have hs1 : 0 ≤ v.tmod n + n := by omega
        have HM := Lib.hid hmod
        clear hmod hd1 hd2 hem
        go_enter Try.func6, Try.ntmps6
        go_wp2
        go_ret
        exact ⟨by rw [HC.out, Int.toNat_of_nonneg hnn, HM.out]; rfl, rfl⟩
      · rw [if_neg hm] at hmod
        have hs1 : 0 ≤ v.tmod n := by omega
        have HM := Lib.hid hmod
        clear hmod hd1 hd2 hem
        go_enter Try.func6, Try.ntmps6
        go_wp2
        go_ret
        exact ⟨by rw [HC.out, Int.toNat_of_nonneg hnn, HM.out]; rfl, rfl⟩
end Go.Proofs.Ytpiofjhcagdklaa
