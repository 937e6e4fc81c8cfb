/- Frames and bytes compared; Decode of any bytes. -/
import Derived.Test.YtpiofjhcagdklaaFrKnown
import Derived.Test.YtpiofjhcagdklaaFrMade
namespace Go.Proofs.Ytpiofjhcagdklaa
open Go Go.RowKit Fl

theorem eq_frame (f g : FrD) (W : World) : (Op.equalIn 10000 35 (FV f) (FV g)).run Try.prog W = .ok (decide (f = g)) W := by
  have hz := Try.underlying35
  rw [run_equalIn_agg W 9999 _ _ _ (by kernel_rfl) (by kernel_rfl)]
  simp only [Program.fieldsOf, hz]
  simp [go_sem]
  obtain ⟨a0, a1, a2, a3, a4⟩ := f
  obtain ⟨b0, b1, b2, b3, b4⟩ := g
  simp only [FrD.mk.injEq]
  by_cases h0 : a0 = b0 <;> by_cases h1 : a1 = b1 <;> by_cases h2 : a2 = b2 <;> by_cases h3 : a3 = b3 <;> by_cases h4 : a4 = b4 <;> simp [h0, h1, h2, h3, h4]
theorem guard_frame (op : BinOp) (x y : Operand) (xs ys : Array Value) (W : World) : (eqGuard op 35 x y (.agg xs) (.agg ys)).run Try.prog W = .ok () W := run_eqGuard_agg W _ _ _ _ _ _ (by kernel_rfl)
theorem str_beq {a b : List Int} (ha : BytesL a) (hb : BytesL b) : ((strOfNums a).toList == (strOfNums b).toList) = decide (a = b) := by
  rw [Bool.eq_iff_iff]
  simp only [beq_iff_eq, decide_eq_true_eq, ByteArray.toList_eq]
  refine ⟨fun h => strOfNums_inj ha hb ?_, fun h => by rw [h]⟩
  unfold strOfNums at h ⊢
  simp only at h ⊢
  rw [h]
end Go.Proofs.Ytpiofjhcagdklaa
