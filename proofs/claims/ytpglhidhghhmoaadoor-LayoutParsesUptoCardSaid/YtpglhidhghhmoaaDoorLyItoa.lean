/- strconv.Itoa writes a number in decimal. -/
import Derived.Test.YtpglhidhghhmoaaDoorFdSpec
import Derived.Test.YtpglhidhghhmoaaDoorFdScan
import Derived.Test.YtpglhidhghhmoaaDoorShelf
import Derived.Lib.ItoaNum
namespace Go.Proofs.YtpglhidhghhmoaaDoor
open Go.RowKit Fl

theorem digs_dec : ∀ (f n : Nat) (acc : List UInt8), n < 10 ^ f → 1 ≤ f → digs f n acc = Lib.decDigits n ++ acc
  | 0, _, _, _, h => by omega
  | f + 1, n, acc, hn, _ => by
    rw [digs, Lib.decDigits]
    by_cases h : n < 10
    · rw [if_pos (by omega), dif_pos h]
      have : digC n = UInt8.ofNat (48 + n) := by unfold digC; congr 1; omega
      rw [this]; rfl
    · rw [if_neg (by omega), dif_neg h]
      have hf : 1 ≤ f := by
        rcases Nat.eq_zero_or_pos f with h0 | h0
        · subst h0; simp at hn; omega
        · exact h0
      rw [digs_dec f (n / 10) _ (by rw [Nat.pow_succ] at hn; omega) hf]
      simp [digC]
theorem itoa_dec {n : Int} (h1 : -9223372036854775808 ≤ n) (h2 : n ≤ 9223372036854775807) : Lib.itoa n = dec n := by
  unfold Lib.itoa dec
  split
  · rw [digs_dec 20 _ _ (by omega) (by omega)]
    simp
    congr 1; omega
  · rw [digs_dec 20 _ _ (by omega) (by omega)]
    simp
abbrev Pows (w : World) : Prop := Lib.TabIs Tryd.prog w "internal/strconv.uint64pow10" .u64 Lib.pow10Tab
theorem Pows.keep {w w' : World} (h : Pows w) (hb : Below w.heap.size w w') : Pows w' := by
  have hg : Tryd.prog.globalNamed "internal/strconv.uint64pow10" = some 1 := by kernel_rfl
  unfold Pows Lib.TabIs World.var? at *
  rw [hg, Option.bind_some] at h ⊢
  have hlt : 1 < w.heap.size := by
    rcases Nat.lt_or_ge 1 w.heap.size with h' | h'
    · exact h'
    · rw [Array.getElem?_eq_none h'] at h; cases h
  rw [hb.block _ hlt]
  exact h
theorem itoa_c (n : Int) (w : World) (h1 : -9223372036854775808 ≤ n) (h2 : n ≤ 9223372036854775807) (hp : Pows w) : Calls Tryd.prog 50 #[.int .i64 n] w fun e w' => e = .returned (S (dec n)) ∧ Below w.heap.size w w' :=
  (Tryd.strconv_Itoa n h1 h2 w hp).mono fun e w' ⟨he, k, os, hw⟩ => by
    refine ⟨by rw [he, itoa_dec h1 h2], ?_⟩
    subst hw
    refine ⟨rfl, rfl, rfl, by simp [Sort.grow, World.drewN], fun i hi => ?_⟩
    show (w.heap ++ os)[i]? = _
    rw [Array.getElem?_append_left hi]
end Go.Proofs.YtpglhidhghhmoaaDoor
