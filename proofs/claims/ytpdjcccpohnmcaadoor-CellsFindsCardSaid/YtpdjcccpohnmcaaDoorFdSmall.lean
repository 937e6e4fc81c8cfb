/- Contracts of the small functions of package fields and of its reference: what kind a byte is of. -/
import Derived.Test.YtpdjcccpohnmcaaDoorFdSpec
import Derived.Test.YtpdjcccpohnmcaaDoorChecked
import Derived.WalkKit
import Derived.ProofKit
import Derived.BigQuiet
import Derived.Lib.Hide
import Derived.Deep.QuietTactic
namespace Go.Proofs.YtpdjcccpohnmcaaDoor
open Go.RowKit Fl

/-- A byte of a string that is written as a list. -/
theorem bget (l : List UInt8) (k : Nat) (h : k < ByteArray.size ⟨l.toArray⟩) : (⟨l.toArray⟩ : ByteArray)[k]'h = l[k]'(by rwa [show ByteArray.size ⟨l.toArray⟩ = l.length from rfl] at h) := rfl
theorem ret_bool {a b : Bool} (h : a = b) : Ending.returned (.bool a) = .returned (.bool b) := by rw [h]
theorem ret_int {k : IntKind} {a b : Int} (h : a = b) : Ending.returned (.int k a) = .returned (.int k b) := by rw [h]

theorem fields_isDigit_c (c : UInt8) (w : World) : Calls Tryd.prog 72 #[.int .u8 c.toNat] w fun e w' => e = .returned (.bool (digitB c)) ∧ w = w' := by
  go_enter Tryd.func72, Tryd.ntmps72
  go_wp2
  all_goals go_ret
  all_goals exact ⟨ret_bool (by rw [Bool.eq_iff_iff]; simp [digitB]; omega), rfl⟩
theorem fields_isLetter_c (c : UInt8) (w : World) : Calls Tryd.prog 71 #[.int .u8 c.toNat] w fun e w' => e = .returned (.bool (letterB c)) ∧ w = w' := by
  go_enter Tryd.func71, Tryd.ntmps71
  go_wp2
  all_goals go_ret
  all_goals exact ⟨ret_bool (by rw [Bool.eq_iff_iff]; simp [letterB]; omega), rfl⟩
theorem blockwayref01_letter_c (c : UInt8) (w : World) : Calls Tryd.prog 75 #[.int .u8 c.toNat] w fun e w' => e = .returned (.bool (letterB c)) ∧ w = w' := by
  go_enter Tryd.func75, Tryd.ntmps75
  go_wp2
  all_goals go_ret
  all_goals exact ⟨ret_bool (by rw [Bool.eq_iff_iff]; simp [letterB]; omega), rfl⟩
end Go.Proofs.YtpdjcccpohnmcaaDoor
