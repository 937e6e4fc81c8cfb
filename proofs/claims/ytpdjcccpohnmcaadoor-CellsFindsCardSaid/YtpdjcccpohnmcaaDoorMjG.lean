/- Joined texts. -/
import Derived.Test.YtpdjcccpohnmcaaDoorFdSmall
import Derived.Test.YtpdjcccpohnmcaaDoorShelf
import Derived.Test.YtpdjcccpohnmcaaDoorScope
import Derived.Outline
import Derived.Test.YtpdjcccpohnmcaaDoorFdSpec
import Derived.Lib.ItoaNum
namespace Go.Proofs.YtpdjcccpohnmcaaDoor
open Go.RowKit Fl
attribute [local go_sem] bget jumpTo_normal jumpTo_exit jumpTo_ret jumpTo_panic passOn_normal passOn_exit passOn_ret passOn_panic

abbrev S (l : List UInt8) : Value := .string ⟨l.toArray⟩
def ScanPost (w : World) (R : Except Nat (List (List UInt8))) (e : Ending) (w' : World) : Prop :=
  Below w.heap.size w w' ∧ match R with
    | .ok fs => ∃ v, e = .returned (.tuple #[v, .int .i64 0]) ∧ w'.ownsRow w.heap.size 9 1 v fs.length (fs.map S)
    | .error n => e = .returned (.tuple #[.slice none 0 0, .int .i64 n])
theorem bext (l : List UInt8) (a b : Nat) : (⟨l.toArray⟩ : ByteArray).extract a b = ⟨(seg l a b).toArray⟩ := by
  apply ByteArray.ext
  rw [ByteArray.data_extract]
  simp [seg, List.extract_eq_take_drop, List.drop_take]

attribute [local go_sem] bext
set_option maxRecDepth 100000 in
theorem clone_c (l : List UInt8) (w : World) (hs : l.length ≤ 100000) : Calls Tryd.prog 41 #[.string ⟨l.toArray⟩] w fun e w' => e = .returned (S l) ∧ Below w.heap.size w w' := by
  have C := Lib.hid (Tryd.stringslite_Clone ⟨l.toArray⟩ w (by show l.length ≤ _; omega))
  go_enter Tryd.func41, Tryd.ntmps41
  go_wp2_with (go_at_call 57; refine (C.out).mono ?_; rintro e w1 ⟨rfl, hb⟩)
  go_ret
  exact ⟨rfl, hb⟩
theorem Tryd.infoString : (Tryd.prog.info? 9).map (fun i => (i.zero, i.size, i.bytes)) = some (some (.string ByteArray.empty), 1, 16) := by kernel_rfl

end Go.Proofs.YtpdjcccpohnmcaaDoor
namespace Go.Proofs.YtpdjcccpohnmcaaDoor
open Go.RowKit Fl

theorem digs_dec : ∀ (f n : Nat) (acc : List UInt8), n < 10 ^ f → 1 ≤ f → digs f n acc = Lib.decDigits n ++ acc
  | 0, _, _, _, h => by omega
  | f + 1, n, acc, hn, _ => by
    rw [digs, Lib.decDigits]
    by_cases h : n < 10
    · rw [if_pos (by omega), dif_pos h]
      have : digC n = UInt8.ofNat (48 + n) := by unfold digC; congr 1; omega
      rw [this]; rfl
    · rw [if_neg (by omega), dif_neg h]
      have hf : 1 ≤ f := by
        rcases Nat.eq_zero_or_pos f with h0 | h0
        · subst h0; simp at hn; omega
        · exact h0
      rw [digs_dec f (n / 10) _ (by rw [Nat.pow_succ] at hn; omega) hf]
      simp [digC]
theorem itoa_dec {n : Int} (h1 : -9223372036854775808 ≤ n) (h2 : n ≤ 9223372036854775807) : Lib.itoa n = dec n := by
  unfold Lib.itoa dec
  split
  · rw [digs_dec 20 _ _ (by omega) (by omega)]
    simp
    congr 1; omega
  · rw [digs_dec 20 _ _ (by omega) (by omega)]
    simp
abbrev Pows (w : World) : Prop := Lib.TabIs Tryd.prog w "internal/strconv.uint64pow10" .u64 Lib.pow10Tab
theorem Pows.keep {w w' : World} (h : Pows w) (hb : Below w.heap.size w w') : Pows w' := by
  have hg : Tryd.prog.globalNamed "internal/strconv.uint64pow10" = some 0 := by kernel_rfl
  unfold Pows Lib.TabIs World.var? at *
  rw [hg, Option.bind_some] at h ⊢
  have hlt : 0 < w.heap.size := by
    rcases Nat.lt_or_ge 0 w.heap.size with h' | h'
    · exact h'
    · rw [Array.getElem?_eq_none h'] at h; cases h
  rw [hb.block _ hlt]
  exact h
theorem itoa_c (n : Int) (w : World) (h1 : -9223372036854775808 ≤ n) (h2 : n ≤ 9223372036854775807) (hp : Pows w) : Calls Tryd.prog 42 #[.int .i64 n] w fun e w' => e = .returned (S (dec n)) ∧ Below w.heap.size w w' :=
  (Tryd.strconv_Itoa n h1 h2 w hp).mono fun e w' ⟨he, k, os, hw⟩ => by
    refine ⟨by rw [he, itoa_dec h1 h2], ?_⟩
    subst hw
    refine ⟨rfl, rfl, rfl, by simp [Sort.grow, World.drewN], fun i hi => ?_⟩
    show (w.heap ++ os)[i]? = _
    rw [Array.getElem?_append_left hi]
end Go.Proofs.YtpdjcccpohnmcaaDoor
