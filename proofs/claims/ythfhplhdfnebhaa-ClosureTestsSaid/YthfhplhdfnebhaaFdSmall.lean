/- Contracts of the small functions of package fields and of its reference: what kind a byte is of. -/
import Derived.Test.YthfhplhdfnebhaaFdSpec
import Derived.Test.YthfhplhdfnebhaaChecked
import Derived.WalkKit
import Derived.ProofKit
import Derived.BigQuiet
import Derived.Lib.Hide
import Derived.Deep.QuietTactic
namespace Go.Proofs.Ythfhplhdfnebhaa
open Go.RowKit Fl

/-- A byte of a string that is written as a list. -/
theorem bget (l : List UInt8) (k : Nat) (h : k < ByteArray.size ⟨l.toArray⟩) : (⟨l.toArray⟩ : ByteArray)[k]'h = l[k]'(by rwa [show ByteArray.size ⟨l.toArray⟩ = l.length from rfl] at h) := rfl
theorem ret_bool {a b : Bool} (h : a = b) : Ending.returned (.bool a) = .returned (.bool b) := by rw [h]
theorem ret_int {k : IntKind} {a b : Int} (h : a = b) : Ending.returned (.int k a) = .returned (.int k b) := by rw [h]

theorem fields_isDigit_c (c : UInt8) (w : World) : Calls Try.prog 70 #[.int .u8 c.toNat] w fun e w' => e = .returned (.bool (digitB c)) ∧ w = w' := by
  go_enter Try.func70, Try.ntmps70
  go_wp2
  all_goals go_ret
  all_goals exact ⟨ret_bool (by rw [Bool.eq_iff_iff]; simp [digitB]; omega), rfl⟩
theorem fields_isLetter_c (c : UInt8) (w : World) : Calls Try.prog 69 #[.int .u8 c.toNat] w fun e w' => e = .returned (.bool (letterB c)) ∧ w = w' := by
  go_enter Try.func69, Try.ntmps69
  go_wp2
  all_goals go_ret
  all_goals exact ⟨ret_bool (by rw [Bool.eq_iff_iff]; simp [letterB]; omega), rfl⟩
theorem blockwayref01_letter_c (c : UInt8) (w : World) : Calls Try.prog 67 #[.int .u8 c.toNat] w fun e w' => e = .returned (.bool (letterB c)) ∧ w = w' := by
  go_enter Try.func67, Try.ntmps67
  go_wp2
  all_goals go_ret
  all_goals exact ⟨ret_bool (by rw [Bool.eq_iff_iff]; simp [letterB]; omega), rfl⟩
end Go.Proofs.Ythfhplhdfnebhaa
