/- A world in which the listed table of layer 2 holds what its text lays: the start that the rows' witnesses take; and what the condition on the table says of a world. -/
import Derived.Test.YtpglhidhghhmoaaDoorCards
import Derived.Test.YtpglhidhghhmoaaDoorTie
import Derived.WalkKit
import Derived.ProofKit
import Derived.OpenShut
import Derived.MakeChecks
import Derived.Deep.DeepHandedRow
import Derived.Test.YtpglhidhghhmoaaDoorLyShapes
namespace Go.Proofs.YtpglhidhghhmoaaDoor
open Go.ChangeShapes Go.WideShapes Go.ChangeAt Go.RowKit Fl

theorem own_none : ownKnob Tryd.prog.godebug = none := by kernel_rfl
noncomputable def setCells (cs : Array Value) : Obj → Obj
  | .cells _ t frozen => .cells cs t frozen
  | o => o
noncomputable def laidWorld (os : Os) : World :=
  { World.holding Tryd.prog os ⟨#[], #[], []⟩ with heap := (World.holding Tryd.prog os ⟨#[], #[], []⟩).heap.modify 0 (setCells shapeCells) }
set_option maxRecDepth 100000 in
theorem laid_at (os : Os) (args : Array Value) : laidMet Tryd.prog Rows.layoutFirstRow.laid ((laidWorld os).forCall (fun _ _ => 0) ⟨#[], args, []⟩).memory :=
  laidMet_of_run' 8 (by kernel_rfl) (by kernel_rfl)
/-- The condition on the table. -/
theorem shapes_of_laid {W : World} {l : List (String × DataW Unit)} (h : laidMet Tryd.prog l W) (hm : ("blockway/layout.shapes", Rows.laid_blockway_layout_shapes) ∈ l) : Shapes W := by
  obtain ⟨ty, fr, hh⟩ := laid_row h hm (m := 5) (g := 0) (by kernel_rfl) rfl (by kernel_rfl)
  exact ⟨ty, fr, hh⟩
end Go.Proofs.YtpglhidhghhmoaaDoor
