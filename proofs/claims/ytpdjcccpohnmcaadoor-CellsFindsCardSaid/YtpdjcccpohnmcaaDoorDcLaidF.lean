/- A world in which the three listed tables hold what their texts lay: the start that the rows' witnesses take; and what the condition on the powers of ten says of a world. -/
import Derived.Test.YtpdjcccpohnmcaaDoorCards
import Derived.Test.YtpdjcccpohnmcaaDoorTie
import Derived.WalkKit
import Derived.ProofKit
import Derived.OpenShut
import Derived.MakeChecks
import Derived.Deep.DeepHandedRow
import Derived.Test.YtpdjcccpohnmcaaDoorLitTab
import Derived.Test.YtpdjcccpohnmcaaDoorMjG
namespace Go.Proofs.YtpdjcccpohnmcaaDoor
open Go.ChangeShapes Go.WideShapes Go.ChangeAt Go.RowKit Fl

noncomputable def setCells (cs : Array Value) : Obj → Obj
  | .cells _ t frozen => .cells cs t frozen
  | o => o
noncomputable def laidWorld3 (os : Os) : World :=
  { World.holding Tryd.prog os ⟨#[], #[], []⟩ with heap := (((World.holding Tryd.prog os ⟨#[], #[], []⟩).heap.modify 0 (setCells (flatD (Rows.laid_internal_strconv_uint64pow10 : DataW Unit)).toArray)).modify 1 (setCells (flatD (Rows.laid_math_bits_deBruijn32tab : DataW Unit)).toArray)).modify 2 (setCells (flatD (Rows.laid_math_bits_deBruijn64tab : DataW Unit)).toArray) }
set_option maxRecDepth 100000 in
theorem laid_at3 (os : Os) (args : Array Value) : laidMet Tryd.prog Rows.cellsFindsRow.laid ((laidWorld3 os).forCall (fun _ _ => 0) ⟨#[], args, []⟩).memory :=
  laidMet_of_run' 8 (by kernel_rfl) (by kernel_rfl)
/-- The condition on the powers of ten. -/
theorem pows_of_laid {W : World} {l : List (String × DataW Unit)} (h : laidMet Tryd.prog l W) (hm : ("internal/strconv.uint64pow10", Rows.laid_internal_strconv_uint64pow10) ∈ l) : Pows W := by
  have hg : Tryd.prog.globalNamed "internal/strconv.uint64pow10" = some 0 := by kernel_rfl
  obtain ⟨ty, fr, hh⟩ := laid_row h hm (m := 5) hg rfl (by kernel_rfl)
  unfold Pows Lib.TabIs World.var?
  rw [hg, Option.bind_some, hh]
  exact congrArg some (by kernel_rfl)
end Go.Proofs.YtpdjcccpohnmcaaDoor
