/- Contract of fields.scan: it returns the fields of a line, or the error of its first byte that has one. -/
import Derived.Test.YtpglhidhghhmoaaDoorFdSmall
import Derived.Test.YtpglhidhghhmoaaDoorShelf
import Derived.Test.YtpglhidhghhmoaaDoorScope
import Derived.Outline
namespace Go.Proofs.YtpglhidhghhmoaaDoor
open Go.RowKit Fl
attribute [local go_sem] bget jumpTo_normal jumpTo_exit jumpTo_ret jumpTo_panic passOn_normal passOn_exit passOn_ret passOn_panic

abbrev S (l : List UInt8) : Value := .string ⟨l.toArray⟩
def ScanPost (w : World) (R : Except Nat (List (List UInt8))) (e : Ending) (w' : World) : Prop :=
  Below w.heap.size w w' ∧ match R with
    | .ok fs => ∃ v, e = .returned (.tuple #[v, .int .i64 0]) ∧ w'.ownsRow w.heap.size 9 1 v fs.length (fs.map S)
    | .error n => e = .returned (.tuple #[.slice none 0 0, .int .i64 n])
theorem bext (l : List UInt8) (a b : Nat) : (⟨l.toArray⟩ : ByteArray).extract a b = ⟨(seg l a b).toArray⟩ := by
  apply ByteArray.ext
  rw [ByteArray.data_extract]
  simp [seg, List.extract_eq_take_drop, List.drop_take]

attribute [local go_sem] bext
set_option maxRecDepth 100000 in
theorem clone_c (l : List UInt8) (w : World) (hs : l.length ≤ 100000) : Calls Tryd.prog 54 #[.string ⟨l.toArray⟩] w fun e w' => e = .returned (S l) ∧ Below w.heap.size w w' := by
  have C := Lib.hid (Tryd.stringslite_Clone ⟨l.toArray⟩ w (by show l.length ≤ _; omega))
  go_enter Tryd.func54, Tryd.ntmps54
  go_wp2_with (go_at_call 62; refine (C.out).mono ?_; rintro e w1 ⟨rfl, hb⟩)
  go_ret
  exact ⟨rfl, hb⟩
theorem Tryd.infoString : (Tryd.prog.info? 9).map (fun i => (i.zero, i.size, i.bytes)) = some (some (.string ByteArray.empty), 1, 16) := by kernel_rfl

end Go.Proofs.YtpglhidhghhmoaaDoor
