/- Contract of the reference's Digits: it returns a number in decimal. -/
import Derived.Test.YtpdjcccpohnmcaaDoorFdSmall
import Derived.Laws.IdiomStrings
namespace Go.Proofs.YtpdjcccpohnmcaaDoor
open Go.RowKit Fl
attribute [local go_sem] bget

theorem bapp1 (c : UInt8) (l : List UInt8) : (⟨#[c]⟩ : ByteArray) ++ ⟨l.toArray⟩ = ⟨(c :: l).toArray⟩ := by
  apply ByteArray.ext
  simp
theorem conv1 (n : Int) (c : UInt8) (h : n = c.toNat) (W : World) : Sem.run Tryd.prog (convert 85 9 (.slice (some ⟨W.heap.size, 0, none⟩) 1 1)) (W.alloc (.cells #[.int .u8 n] 5)) = .ok (.string ⟨#[c]⟩) (W.alloc (.cells #[.int .u8 n] 5)) := by
  subst h
  have := run_convert_bytes_back (P := Tryd.prog) (W.alloc (.cells #[.int .u8 (c.toNat : Int)] 5)) 85 9 5 ⟨W.heap.size, 0, none⟩ 1 [c] Tryd.underlying85 Tryd.underlying5 Tryd.underlying9 (fun j hj => by
    have hj' : j = 0 := by simpa using hj
    subst hj'
    simp [go_sem])
  simpa using this
theorem ofNat_digit (k : Nat) : (48 + (k : Int) % 10) = ((digC k).toNat : Int) := by
  rw [digC_nat]; omega

set_option maxHeartbeats 1000000 in
theorem digits_nn (n : Int) (w : World) (h0 : 0 ≤ n) (h1 : n ≤ 1000000) : Calls Tryd.prog 43 #[.int .i64 n] w fun e w' => e = .returned (.string ⟨(dec n).toArray⟩) ∧ Below w.heap.size w w' := by
  obtain ⟨m, rfl⟩ := Int.eq_ofNat_of_zero_le h0
  have HD := Lib.hid (show dec m = digs 20 m [] by unfold dec; rw [if_neg (by omega), Int.toNat_natCast])
  go_enter Tryd.func43, Tryd.ntmps43
  go_wp2
  go_loopw [0, 3] (fun i s wr => ∃ (f k : Nat) (acc : List UInt8), i = .int .i64 k ∧ s = .string ⟨acc.toArray⟩ ∧ k ≤ 1000000 ∧ Hid (k < 10 ^ f) ∧ Hid (acc.length ≤ 20 - f ∧ f ≤ 20 ∧ 1 ≤ f) ∧ Hid (digs 20 m [] = digs f k acc) ∧ Below w.heap.size w wr) (fun i _ _ => (intOf i).toNat)
  case atStart => exact ⟨20, m, [], rfl, rfl, by omega, Lib.hid (by omega), Lib.hid (by simp), Lib.hid rfl, Below.refl _ _⟩
  case round =>
    obtain ⟨f, k, acc, rfl, rfl, hk, HF, HL, HS, hb⟩ := hrel
    obtain ⟨g, rfl⟩ : ∃ g, f = g + 1 := ⟨f - 1, by have := HL.out; omega⟩
    have hz := hb.size
    have hal : acc.length ≤ 20 := by have := HL.out; omega
    have hcv := conv1 _ _ (ofNat_digit k)
    have hap := bapp1 (digC k) acc
    by_cases hq : k / 10 = 0
    · have HE := Lib.hid (show digs (g + 1) k acc = digC k :: acc by rw [digs, if_pos hq])
      have hlt : k < 10 := by omega
      clear hq
      go_wp2
      go_ret
      exact ⟨by rw [HD.out, HS.out, HE.out]; rfl, hb.alloc hz _⟩
    · have HE := Lib.hid (show digs (g + 1) k acc = digs g (k / 10) (digC k :: acc) by rw [digs, if_neg hq])
      have hge : 10 ≤ k := by omega
      clear hq
      go_wp2
      all_goals go_roundw
      case rel => exact ⟨g, k / 10, _, by go_num, rfl, by omega, Lib.hid (by have := HF.out; rw [Nat.pow_succ] at this; omega), Lib.hid (by
        have := HL.out
        have h2 := HF.out
        have : g ≠ 0 := by rintro rfl; simp at h2; omega
        simp; omega), Lib.hid (HS.out.trans HE.out), hb.alloc hz _⟩
      case measure => simp [intOf]; omega

set_option maxHeartbeats 1000000 in
theorem digits_c (n : Int) (w : World) (h0 : -1000000 ≤ n) (h1 : n ≤ 1000000) : Calls Tryd.prog 43 #[.int .i64 n] w fun e w' => e = .returned (.string ⟨(dec n).toArray⟩) ∧ Below w.heap.size w w' := by
  by_cases hn : 0 ≤ n
  · exact digits_nn n w hn h1
  · have C := Lib.hid (digits_nn (-n) w (by omega) (by omega))
    have HE := Lib.hid (show dec n = 45 :: dec (-n) by unfold dec; rw [if_pos (by omega), if_neg (by omega)])
    have hlen := dec_length (-n)
    have hap := bapp1 45 (dec (-n))
    have hn' : n < 0 := by omega
    clear hn
    go_enter Tryd.func43, Tryd.ntmps43
    go_wp2_with (go_at_call 43; refine (C.out).mono ?_; rintro e w1 ⟨rfl, hb⟩)
    go_ret
    exact ⟨by rw [HE.out]; rfl, by assumption⟩
end Go.Proofs.YtpdjcccpohnmcaaDoor
