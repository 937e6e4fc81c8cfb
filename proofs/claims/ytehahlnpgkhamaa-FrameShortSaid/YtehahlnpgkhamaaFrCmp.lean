/- Frames and bytes compared; Decode of any bytes. -/
import Derived.Test.YtehahlnpgkhamaaFrKnown
import Derived.Test.YtehahlnpgkhamaaFrMade
namespace Go.Proofs.Ytehahlnpgkhamaa
open Go Go.RowKit Fl

theorem eq_frame (f g : FrD) (W : World) : (Op.equalIn 10000 24 (FV f) (FV g)).run Try.prog W = .ok (decide (f = g)) W := by
  have hz := Try.underlying24
  rw [run_equalIn_agg W 9999 _ _ _ (by kernel_rfl) (by kernel_rfl)]
  simp only [Program.fieldsOf, hz]
  simp [go_sem]
  obtain ⟨a0, a1, a2, a3, a4⟩ := f
  obtain ⟨b0, b1, b2, b3, b4⟩ := g
  simp only [FrD.mk.injEq]
  by_cases h0 : a0 = b0 <;> by_cases h1 : a1 = b1 <;> by_cases h2 : a2 = b2 <;> by_cases h3 : a3 = b3 <;> by_cases h4 : a4 = b4 <;> simp [h0, h1, h2, h3, h4]
theorem guard_frame (op : BinOp) (x y : Operand) (xs ys : Array Value) (W : World) : (eqGuard op 24 x y (.agg xs) (.agg ys)).run Try.prog W = .ok () W := run_eqGuard_agg W _ _ _ _ _ _ (by kernel_rfl)
theorem str_beq {a b : List Int} (ha : BytesL a) (hb : BytesL b) : ((strOfNums a).toList == (strOfNums b).toList) = decide (a = b) := by
  rw [Bool.eq_iff_iff]
  simp only [beq_iff_eq, decide_eq_true_eq, ByteArray.toList_eq]
  refine ⟨fun h => strOfNums_inj ha hb ?_, fun h => by rw [h]⟩
  unfold strOfNums at h ⊢
  simp only at h ⊢
  rw [h]
theorem decode_n (A : Option Addr) (c n : Nat) (hn : n ≠ 12) (w : World) :
    Calls Try.prog 12 #[.slice A n c] w fun e w' => e = .returned (.tuple #[FV zeroF, .int .i64 21]) ∧ Below w.heap.size w w' := by
  have hl : (List.replicate n (0 : Int)).length ≠ 12 := by simpa using hn
  have h := decode_short A c (List.replicate n 0) w hl
  obtain ⟨h1, h2⟩ := errD_short hl
  unfold DecPost at h
  rw [h1, h2, List.length_replicate] at h
  exact h
theorem decode_any (A : Option Addr) (c : Nat) (l : List Int) (w : World) (hh : Holds w A (l.map Bv8)) (hb : BytesL l) :
    Calls Try.prog 12 #[.slice A l.length c] w (DecPost l w) := by
  by_cases hl : l.length = 12
  · rw [hl]; exact decode_c A c l w hh hl hb
  · exact decode_short A c l w hl
end Go.Proofs.Ytehahlnpgkhamaa
