/- Joined texts. -/
import Derived.Test.YtcpoojlhfebcmaaDoorCards
import Derived.Test.YtcpoojlhfebcmaaDoorTie
import Derived.WalkKit
import Derived.ProofKit
import Derived.OpenShut
import Derived.MakeChecks
import Derived.Deep.DeepHandedRow
import Derived.Test.YtcpoojlhfebcmaaDoorLitTab
import Derived.Test.YtcpoojlhfebcmaaDoorMjG
import Derived.Test.YtcpoojlhfebcmaaDoorRows
import Derived.Test.YtcpoojlhfebcmaaDoorMjH
import Derived.Carry
import Derived.SizedLaws
import Derived.Lib.LaidTab
namespace Go.Proofs.YtcpoojlhfebcmaaDoor
open Go.ChangeShapes Go.WideShapes Go.ChangeAt Go.RowKit Fl

theorem own_none : ownKnob Tryd.prog.godebug = none := by kernel_rfl
noncomputable def setCells (cs : Array Value) : Obj → Obj
  | .cells _ t frozen => .cells cs t frozen
  | o => o
noncomputable def laidWorld3 (os : Os) : World :=
  { World.holding Tryd.prog os ⟨#[], #[], []⟩ with heap := (((World.holding Tryd.prog os ⟨#[], #[], []⟩).heap.modify 0 (setCells (flatD (Rows.laid_internal_strconv_uint64pow10 : DataW Unit)).toArray)).modify 1 (setCells (flatD (Rows.laid_math_bits_deBruijn32tab : DataW Unit)).toArray)).modify 2 (setCells (flatD (Rows.laid_math_bits_deBruijn64tab : DataW Unit)).toArray) }
set_option maxRecDepth 100000 in
theorem laid_at3 (os : Os) (args : Array Value) : laidMet Tryd.prog Rows.cellsChainsRow.laid ((laidWorld3 os).forCall (fun _ _ => 0) ⟨#[], args, []⟩).memory :=
  laidMet_of_run' 8 (by kernel_rfl) (by kernel_rfl)
/-- The condition on the powers of ten. -/
theorem pows_of_laid {W : World} {l : List (String × DataW Unit)} (h : laidMet Tryd.prog l W) (hm : ("internal/strconv.uint64pow10", Rows.laid_internal_strconv_uint64pow10) ∈ l) : Pows W := by
  have hg : Tryd.prog.globalNamed "internal/strconv.uint64pow10" = some 0 := by kernel_rfl
  obtain ⟨ty, fr, hh⟩ := laid_row h hm (m := 5) hg rfl (by kernel_rfl)
  unfold Pows Lib.TabIs World.var?
  rw [hg, Option.bind_some, hh]
  exact congrArg some (by kernel_rfl)
end Go.Proofs.YtcpoojlhfebcmaaDoor
namespace Go.Proofs.YtcpoojlhfebcmaaDoor
open Go.ChangeShapes Go.WideShapes Go.ChangeAt Go.RowKit

theorem laidOut : laidOutB Tryd.prog = true := by kernel_rfl
theorem cellsInt : Tryd.prog.cellsOf 3 = 1 := by kernel_rfl
set_option maxRecDepth 100000 in
/-- An argument of type []int holds a list of numbers. -/
theorem open_list {H : Type} {enc : TypeId × Value → H} {W : World} {v : Value} {d : DataW H} {p : List MemPlace} {base : Nat}
    (hok : Value.okWide Tryd.prog W .any base 25 v) (h : DataW.Trod enc Tryd.prog W 0 (fun _ => true) true 25 v d p) :
    ∃ (A : Option Addr) (c : Nat) (zs : List Int), v = .slice A zs.length c ∧ IntsAt W W.heap.size A zs ∧ zs.length ≤ maxLen := by
  obtain ⟨a0, len, cap, rfl⟩ := okWide_slice Tryd.underlying25 hok
  obtain ⟨fuel, hf⟩ := h
  rcases open_ints Tryd.underlying25 Tryd.underlying3 cellsInt hf with ⟨hcs, hx⟩ | ⟨a, len', cap', zs, hcs, _, hl, hm, hz, hx, hcell, hwz⟩
  · simp [Value.cells] at hcs
    obtain ⟨rfl, rfl, rfl⟩ := hcs
    exact ⟨none, 0, [], rfl, fun h => by simp at h, by simp⟩
  · simp [Value.cells] at hcs
    obtain ⟨rfl, rfl, rfl⟩ := hcs
    simp only [if_true] at hz
    have hlen : (zs.take len).length = len := by simp; omega
    refine ⟨some a, cap, zs.take len, by rw [hlen], fun hn => ?_, by rw [hlen]; omega⟩
    rw [hlen] at hn
    obtain ⟨b, off, rfl, hc⟩ := ints_at hcell (by omega)
    refine ⟨b, off, rfl, World.block_lt_of_cell? _ _ (hc 0 (by omega)), fun j hj => ?_⟩
    rw [hlen] at hj
    have hjz : j < zs.length := by omega
    have hwj := bounds_i64 (hwz _ (List.getElem_mem hjz))
    have e : (zs.take len)[j]'(by rw [hlen]; exact hj) = zs[j] := by simp
    rw [e]
    refine ⟨?_, hwj.1, hwj.2⟩
    rw [hc j hjz]
    simp [List.getD, hjz]
end Go.Proofs.YtcpoojlhfebcmaaDoor
