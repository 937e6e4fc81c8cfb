/-
  No cell of these rows narrows 'for every input' (looked for: loops, veiled, ifaces, maps, wideKeys, modest, calm, conditions, laid).
  DERIVED. THE GIVEN ROWS OF THIS SEAT. 4 by the template 'for every input the law returns true; each argument reads behind the call as it read before'; 0 by the template 'total and deterministic' (their statements: YtcljmgchghjncaaTotals.lean).
  GIVEN WITH THE SEED: the statements are not yours to turn. If you find one false, say at which input.
  Laid BY PROGRAM, IN A SANDBOX (cutbox-rows.mjs): the forced cells as the released guide's own fill.sh prints them over the translation f3bad8a7faff09c7… (all of the seat's roots in one cut). By AI agents, Wed Nov 11 2026. No macro, syntax, notation, axiom, sorry.
-/
import Derived.Test.YtcljmgchghjncaaChecked
import GoSem.Claim
import GoSem.ClaimJoined
import GoSem.ClaimMapViews
import Derived.JoinedTies
import Derived.KernelRfl
namespace Go.Proofs.Ytcljmgchghjncaa
/- THE CELL 'sum', in the pinned program and in every row, IS THE sha256 OF THE DUMP (.gsa) THAT YtcljmgchghjncaaProg.lean LOADS. Nothing in Lean hashes anything: it is a label: what it is worth is what the hold of that sum in a sandbox is worth. -/
noncomputable def Try.pinned : Pinned := { name := "ytcljmgchghjncaa", sum := "f3bad8a7faff09c7a0b9bd8b5b1355a39489bbf7eeb9c70c2f37dc2e471b2331", checked := Try.checked }
namespace Rows
def none {H : Type} : Left H := { results := [], args := [] }

/-- 'blockwaylaw05.ComponentsFinds': WHATEVER THE INPUT: true; the input reads as it did. -/
def componentsFindsSpec : ChangeSpec := { name := "componentsFinds", fn := fun _ => fun
  | [d1, d2, d3] => { results := [.lit (.bool true)], args := [d1, d2, d3] }
  | _ => none }
def componentsFindsRow : OpenClaim := { program := "ytcljmgchghjncaa", sum := "f3bad8a7faff09c7a0b9bd8b5b1355a39489bbf7eeb9c70c2f37dc2e471b2331", func := "blockway/blockwaylaw05.ComponentsFinds", spec := "componentsFinds", unfollowed := true, recurses := true, apart := false }
def ComponentsFindsSaid : Prop := componentsFindsRow.holds Try.pinned (OpenSpec.ofChange componentsFindsSpec)

/-- ITS FALSE NEIGHBOUR: 'it returns false'. Refute it at one input. -/
def componentsFindsWrong : ChangeSpec := { name := "componentsFinds", fn := fun _ => fun
  | [d1, d2, d3] => { results := [.lit (.bool false)], args := [d1, d2, d3] }
  | _ => none }
def ComponentsFindsWrongFalsely : Prop := componentsFindsRow.holds Try.pinned (OpenSpec.ofChange componentsFindsWrong)

/-- 'blockwaylaw05.ComponentsMutual': WHATEVER THE INPUT: true; the input reads as it did. -/
def componentsMutualSpec : ChangeSpec := { name := "componentsMutual", fn := fun _ => fun
  | [d] => { results := [.lit (.bool true)], args := [d] }
  | _ => none }
def componentsMutualRow : OpenClaim := { program := "ytcljmgchghjncaa", sum := "f3bad8a7faff09c7a0b9bd8b5b1355a39489bbf7eeb9c70c2f37dc2e471b2331", func := "blockway/blockwaylaw05.ComponentsMutual", spec := "componentsMutual", unfollowed := true, recurses := true, apart := false }
def ComponentsMutualSaid : Prop := componentsMutualRow.holds Try.pinned (OpenSpec.ofChange componentsMutualSpec)

/-- ITS FALSE NEIGHBOUR: 'it returns false'. Refute it at one input. -/
def componentsMutualWrong : ChangeSpec := { name := "componentsMutual", fn := fun _ => fun
  | [d] => { results := [.lit (.bool false)], args := [d] }
  | _ => none }
def ComponentsMutualWrongFalsely : Prop := componentsMutualRow.holds Try.pinned (OpenSpec.ofChange componentsMutualWrong)

/-- 'blockwaylaw05.ComponentsOne': WHATEVER THE INPUT: true; the input reads as it did. -/
def componentsOneSpec : ChangeSpec := { name := "componentsOne", fn := fun _ => fun
  | [d] => { results := [.lit (.bool true)], args := [d] }
  | _ => none }
def componentsOneRow : OpenClaim := { program := "ytcljmgchghjncaa", sum := "f3bad8a7faff09c7a0b9bd8b5b1355a39489bbf7eeb9c70c2f37dc2e471b2331", func := "blockway/blockwaylaw05.ComponentsOne", spec := "componentsOne", unfollowed := true, recurses := true, apart := false }
def ComponentsOneSaid : Prop := componentsOneRow.holds Try.pinned (OpenSpec.ofChange componentsOneSpec)

/-- ITS FALSE NEIGHBOUR: 'it returns false'. Refute it at one input. -/
def componentsOneWrong : ChangeSpec := { name := "componentsOne", fn := fun _ => fun
  | [d] => { results := [.lit (.bool false)], args := [d] }
  | _ => none }
def ComponentsOneWrongFalsely : Prop := componentsOneRow.holds Try.pinned (OpenSpec.ofChange componentsOneWrong)

/-- 'blockwaylaw05.ComponentsOrder': WHATEVER THE INPUT: true; the input reads as it did. -/
def componentsOrderSpec : ChangeSpec := { name := "componentsOrder", fn := fun _ => fun
  | [d] => { results := [.lit (.bool true)], args := [d] }
  | _ => none }
def componentsOrderRow : OpenClaim := { program := "ytcljmgchghjncaa", sum := "f3bad8a7faff09c7a0b9bd8b5b1355a39489bbf7eeb9c70c2f37dc2e471b2331", func := "blockway/blockwaylaw05.ComponentsOrder", spec := "componentsOrder", unfollowed := true, recurses := true, apart := false }
def ComponentsOrderSaid : Prop := componentsOrderRow.holds Try.pinned (OpenSpec.ofChange componentsOrderSpec)

/-- ITS FALSE NEIGHBOUR: 'it returns false'. Refute it at one input. -/
def componentsOrderWrong : ChangeSpec := { name := "componentsOrder", fn := fun _ => fun
  | [d] => { results := [.lit (.bool false)], args := [d] }
  | _ => none }
def ComponentsOrderWrongFalsely : Prop := componentsOrderRow.holds Try.pinned (OpenSpec.ofChange componentsOrderWrong)

/- THE SECOND FORM. 'bulk': how many values and letters a reading holds, each counted each time it is reached (what is shared counts as often as it is met; a slice's spare places count too). A statement '..UptoSaid' is the law's where the arguments, and the package variables that the reading takes, are together of bulk at most 1048576: NARROWER than '..Said'. Prove '..Said' where nothing that the law and all that it calls make is longer than what came in: it says more and counts as full. Else prove '..UptoSaid'. A law counts once. -/
mutual
def uptoBulk {H : Type} : DataW H → Nat
  | .lit (.string bytes) => bytes.length + 1
  | .lit _ => 1
  | .nil => 1
  | .ptr d => uptoBulk d + 1
  | .slice elems spare => uptoBulkAll elems + uptoBulkAll spare + 1
  | .agg parts => uptoBulkAll parts + 1
  | .iface _ d => uptoBulk d + 1
  | .map entries => uptoBulkEntries entries + 1
  | .held _ => 1
def uptoBulkAll {H : Type} : List (DataW H) → Nat
  | [] => 0
  | d :: r => uptoBulk d + uptoBulkAll r
def uptoBulkEntries {H : Type} : List (Lit × DataW H) → Nat
  | [] => 0
  | x :: r => uptoBulkEntry x + uptoBulkEntries r
def uptoBulkEntry {H : Type} : Lit × DataW H → Nat
  | (.string bytes, d) => bytes.length + uptoBulk d + 1
  | (_, d) => uptoBulk d + 1
 end
def uptoSmall : (H : Type) → List (DataW H) → Bool := fun _ ds => decide (uptoBulkAll ds ≤ 1048576)
def OpenSpec.upto (s : _root_.Go.ChangeSpec) : _root_.Go.OpenSpec := { _root_.Go.OpenSpec.ofChange s with cond := some uptoSmall }

/-- 'blockwaylaw05.ComponentsFinds', WHERE WHAT IT READS IS OF BULK AT MOST 1048576: true; the input reads as it did. -/
def componentsFindsUptoRow : OpenClaim := { program := "ytcljmgchghjncaa", sum := "f3bad8a7faff09c7a0b9bd8b5b1355a39489bbf7eeb9c70c2f37dc2e471b2331", func := "blockway/blockwaylaw05.ComponentsFinds", spec := "componentsFinds", unfollowed := true, recurses := true, apart := false, narrowed := true }
def ComponentsFindsUptoSaid : Prop := componentsFindsUptoRow.holds Try.pinned (OpenSpec.upto componentsFindsSpec)

/-- 'blockwaylaw05.ComponentsMutual', WHERE WHAT IT READS IS OF BULK AT MOST 1048576: true; the input reads as it did. -/
def componentsMutualUptoRow : OpenClaim := { program := "ytcljmgchghjncaa", sum := "f3bad8a7faff09c7a0b9bd8b5b1355a39489bbf7eeb9c70c2f37dc2e471b2331", func := "blockway/blockwaylaw05.ComponentsMutual", spec := "componentsMutual", unfollowed := true, recurses := true, apart := false, narrowed := true }
def ComponentsMutualUptoSaid : Prop := componentsMutualUptoRow.holds Try.pinned (OpenSpec.upto componentsMutualSpec)

/-- 'blockwaylaw05.ComponentsOne', WHERE WHAT IT READS IS OF BULK AT MOST 1048576: true; the input reads as it did. -/
def componentsOneUptoRow : OpenClaim := { program := "ytcljmgchghjncaa", sum := "f3bad8a7faff09c7a0b9bd8b5b1355a39489bbf7eeb9c70c2f37dc2e471b2331", func := "blockway/blockwaylaw05.ComponentsOne", spec := "componentsOne", unfollowed := true, recurses := true, apart := false, narrowed := true }
def ComponentsOneUptoSaid : Prop := componentsOneUptoRow.holds Try.pinned (OpenSpec.upto componentsOneSpec)

/-- 'blockwaylaw05.ComponentsOrder', WHERE WHAT IT READS IS OF BULK AT MOST 1048576: true; the input reads as it did. -/
def componentsOrderUptoRow : OpenClaim := { program := "ytcljmgchghjncaa", sum := "f3bad8a7faff09c7a0b9bd8b5b1355a39489bbf7eeb9c70c2f37dc2e471b2331", func := "blockway/blockwaylaw05.ComponentsOrder", spec := "componentsOrder", unfollowed := true, recurses := true, apart := false, narrowed := true }
def ComponentsOrderUptoSaid : Prop := componentsOrderUptoRow.holds Try.pinned (OpenSpec.upto componentsOrderSpec)

end Rows
end Go.Proofs.Ytcljmgchghjncaa
