/-
  No cell of these rows narrows 'for every input' (looked for: loops, veiled, ifaces, maps, wideKeys, modest, calm, conditions, laid).
  DERIVED. THE GIVEN ROWS OF THIS SEAT. 7 by the template 'for every input the law returns true; each argument reads behind the call as it read before'; 0 by the template 'total and deterministic' (their statements: YtfgpenekmokdiaaTotals.lean).
  GIVEN WITH THE SEED: the statements are not yours to turn. If you find one false, say at which input.
  Laid BY PROGRAM, IN A SANDBOX (cutbox-rows.mjs): the forced cells as the released guide's own fill.sh prints them over the translation 275f2ba954c2e3d9… (all of the seat's roots in one cut). By AI agents, Wed Nov 11 2026. No macro, syntax, notation, axiom, sorry.
-/
import Derived.Test.YtfgpenekmokdiaaChecked
import GoSem.Claim
import GoSem.ClaimJoined
import GoSem.ClaimMapViews
import Derived.JoinedTies
import Derived.KernelRfl
namespace Go.Proofs.Ytfgpenekmokdiaa
/- THE CELL 'sum', in the pinned program and in every row, IS THE sha256 OF THE DUMP (.gsa) THAT YtfgpenekmokdiaaProg.lean LOADS. Nothing in Lean hashes anything: it is a label: what it is worth is what the hold of that sum in a sandbox is worth. -/
noncomputable def Try.pinned : Pinned := { name := "ytfgpenekmokdiaa", sum := "275f2ba954c2e3d9ae8c9b549eaad6324e15f00ad98cc2e50eb8e9d89701e96c", checked := Try.checked }
namespace Rows
def none {H : Type} : Left H := { results := [], args := [] }

/-- 'blockwaylaw12.TokenPlays': WHATEVER THE INPUT: true; the input reads as it did. -/
def tokenPlaysSpec : ChangeSpec := { name := "tokenPlays", fn := fun _ => fun
  | [d1, d2, d3, d4] => { results := [.lit (.bool true)], args := [d1, d2, d3, d4] }
  | _ => none }
def tokenPlaysRow : OpenClaim := { program := "ytfgpenekmokdiaa", sum := "275f2ba954c2e3d9ae8c9b549eaad6324e15f00ad98cc2e50eb8e9d89701e96c", func := "blockway/blockwaylaw12.TokenPlays", spec := "tokenPlays", unfollowed := true, recurses := true, apart := false }
def TokenPlaysSaid : Prop := tokenPlaysRow.holds Try.pinned (OpenSpec.ofChange tokenPlaysSpec)

/-- ITS FALSE NEIGHBOUR: 'it returns false'. Refute it at one input. -/
def tokenPlaysWrong : ChangeSpec := { name := "tokenPlays", fn := fun _ => fun
  | [d1, d2, d3, d4] => { results := [.lit (.bool false)], args := [d1, d2, d3, d4] }
  | _ => none }
def TokenPlaysWrongFalsely : Prop := tokenPlaysRow.holds Try.pinned (OpenSpec.ofChange tokenPlaysWrong)

/-- 'blockwaylaw12.TokenFills': WHATEVER THE INPUT: true; the input reads as it did. -/
def tokenFillsSpec : ChangeSpec := { name := "tokenFills", fn := fun _ => fun
  | [d1, d2, d3, d4] => { results := [.lit (.bool true)], args := [d1, d2, d3, d4] }
  | _ => none }
def tokenFillsRow : OpenClaim := { program := "ytfgpenekmokdiaa", sum := "275f2ba954c2e3d9ae8c9b549eaad6324e15f00ad98cc2e50eb8e9d89701e96c", func := "blockway/blockwaylaw12.TokenFills", spec := "tokenFills", unfollowed := true, recurses := true, apart := false }
def TokenFillsSaid : Prop := tokenFillsRow.holds Try.pinned (OpenSpec.ofChange tokenFillsSpec)

/-- ITS FALSE NEIGHBOUR: 'it returns false'. Refute it at one input. -/
def tokenFillsWrong : ChangeSpec := { name := "tokenFills", fn := fun _ => fun
  | [d1, d2, d3, d4] => { results := [.lit (.bool false)], args := [d1, d2, d3, d4] }
  | _ => none }
def TokenFillsWrongFalsely : Prop := tokenFillsRow.holds Try.pinned (OpenSpec.ofChange tokenFillsWrong)

/-- 'blockwaylaw12.TokenBelow': WHATEVER THE INPUT: true; the input reads as it did. -/
def tokenBelowSpec : ChangeSpec := { name := "tokenBelow", fn := fun _ => fun
  | [d] => { results := [.lit (.bool true)], args := [d] }
  | _ => none }
def tokenBelowRow : OpenClaim := { program := "ytfgpenekmokdiaa", sum := "275f2ba954c2e3d9ae8c9b549eaad6324e15f00ad98cc2e50eb8e9d89701e96c", func := "blockway/blockwaylaw12.TokenBelow", spec := "tokenBelow", unfollowed := true, recurses := true, apart := false }
def TokenBelowSaid : Prop := tokenBelowRow.holds Try.pinned (OpenSpec.ofChange tokenBelowSpec)

/-- ITS FALSE NEIGHBOUR: 'it returns false'. Refute it at one input. -/
def tokenBelowWrong : ChangeSpec := { name := "tokenBelow", fn := fun _ => fun
  | [d] => { results := [.lit (.bool false)], args := [d] }
  | _ => none }
def TokenBelowWrongFalsely : Prop := tokenBelowRow.holds Try.pinned (OpenSpec.ofChange tokenBelowWrong)

/-- 'blockwaylaw12.TokenTight': WHATEVER THE INPUT: true; the input reads as it did. -/
def tokenTightSpec : ChangeSpec := { name := "tokenTight", fn := fun _ => fun
  | [d] => { results := [.lit (.bool true)], args := [d] }
  | _ => none }
def tokenTightRow : OpenClaim := { program := "ytfgpenekmokdiaa", sum := "275f2ba954c2e3d9ae8c9b549eaad6324e15f00ad98cc2e50eb8e9d89701e96c", func := "blockway/blockwaylaw12.TokenTight", spec := "tokenTight", unfollowed := true, recurses := true, apart := false }
def TokenTightSaid : Prop := tokenTightRow.holds Try.pinned (OpenSpec.ofChange tokenTightSpec)

/-- ITS FALSE NEIGHBOUR: 'it returns false'. Refute it at one input. -/
def tokenTightWrong : ChangeSpec := { name := "tokenTight", fn := fun _ => fun
  | [d] => { results := [.lit (.bool false)], args := [d] }
  | _ => none }
def TokenTightWrongFalsely : Prop := tokenTightRow.holds Try.pinned (OpenSpec.ofChange tokenTightWrong)

/-- 'blockwaylaw12.TokenReached': WHATEVER THE INPUT: true; the input reads as it did. -/
def tokenReachedSpec : ChangeSpec := { name := "tokenReached", fn := fun _ => fun
  | [d] => { results := [.lit (.bool true)], args := [d] }
  | _ => none }
def tokenReachedRow : OpenClaim := { program := "ytfgpenekmokdiaa", sum := "275f2ba954c2e3d9ae8c9b549eaad6324e15f00ad98cc2e50eb8e9d89701e96c", func := "blockway/blockwaylaw12.TokenReached", spec := "tokenReached", unfollowed := true, recurses := true, apart := false }
def TokenReachedSaid : Prop := tokenReachedRow.holds Try.pinned (OpenSpec.ofChange tokenReachedSpec)

/-- ITS FALSE NEIGHBOUR: 'it returns false'. Refute it at one input. -/
def tokenReachedWrong : ChangeSpec := { name := "tokenReached", fn := fun _ => fun
  | [d] => { results := [.lit (.bool false)], args := [d] }
  | _ => none }
def TokenReachedWrongFalsely : Prop := tokenReachedRow.holds Try.pinned (OpenSpec.ofChange tokenReachedWrong)

/-- 'blockwaylaw12.TokenRings': WHATEVER THE INPUT: true; the input reads as it did. -/
def tokenRingsSpec : ChangeSpec := { name := "tokenRings", fn := fun _ => fun
  | [d] => { results := [.lit (.bool true)], args := [d] }
  | _ => none }
def tokenRingsRow : OpenClaim := { program := "ytfgpenekmokdiaa", sum := "275f2ba954c2e3d9ae8c9b549eaad6324e15f00ad98cc2e50eb8e9d89701e96c", func := "blockway/blockwaylaw12.TokenRings", spec := "tokenRings", unfollowed := true, recurses := true, apart := false }
def TokenRingsSaid : Prop := tokenRingsRow.holds Try.pinned (OpenSpec.ofChange tokenRingsSpec)

/-- ITS FALSE NEIGHBOUR: 'it returns false'. Refute it at one input. -/
def tokenRingsWrong : ChangeSpec := { name := "tokenRings", fn := fun _ => fun
  | [d] => { results := [.lit (.bool false)], args := [d] }
  | _ => none }
def TokenRingsWrongFalsely : Prop := tokenRingsRow.holds Try.pinned (OpenSpec.ofChange tokenRingsWrong)

/-- 'blockwaylaw12.TokenMoves': WHATEVER THE INPUT: true; the input reads as it did. -/
def tokenMovesSpec : ChangeSpec := { name := "tokenMoves", fn := fun _ => fun
  | [d1, d2] => { results := [.lit (.bool true)], args := [d1, d2] }
  | _ => none }
def tokenMovesRow : OpenClaim := { program := "ytfgpenekmokdiaa", sum := "275f2ba954c2e3d9ae8c9b549eaad6324e15f00ad98cc2e50eb8e9d89701e96c", func := "blockway/blockwaylaw12.TokenMoves", spec := "tokenMoves", unfollowed := true, recurses := true, apart := false }
def TokenMovesSaid : Prop := tokenMovesRow.holds Try.pinned (OpenSpec.ofChange tokenMovesSpec)

/-- ITS FALSE NEIGHBOUR: 'it returns false'. Refute it at one input. -/
def tokenMovesWrong : ChangeSpec := { name := "tokenMoves", fn := fun _ => fun
  | [d1, d2] => { results := [.lit (.bool false)], args := [d1, d2] }
  | _ => none }
def TokenMovesWrongFalsely : Prop := tokenMovesRow.holds Try.pinned (OpenSpec.ofChange tokenMovesWrong)

/- THE SECOND FORM. 'bulk': how many values and letters a reading holds, each counted each time it is reached (what is shared counts as often as it is met; a slice's spare places count too). A statement '..UptoSaid' is the law's where the arguments, and the package variables that the reading takes, are together of bulk at most 1048576: NARROWER than '..Said'. Prove '..Said' where nothing that the law and all that it calls make is longer than what came in: it says more and counts as full. Else prove '..UptoSaid'. A law counts once. -/
mutual
def uptoBulk {H : Type} : DataW H → Nat
  | .lit (.string bytes) => bytes.length + 1
  | .lit _ => 1
  | .nil => 1
  | .ptr d => uptoBulk d + 1
  | .slice elems spare => uptoBulkAll elems + uptoBulkAll spare + 1
  | .agg parts => uptoBulkAll parts + 1
  | .iface _ d => uptoBulk d + 1
  | .map entries => uptoBulkEntries entries + 1
  | .held _ => 1
def uptoBulkAll {H : Type} : List (DataW H) → Nat
  | [] => 0
  | d :: r => uptoBulk d + uptoBulkAll r
def uptoBulkEntries {H : Type} : List (Lit × DataW H) → Nat
  | [] => 0
  | x :: r => uptoBulkEntry x + uptoBulkEntries r
def uptoBulkEntry {H : Type} : Lit × DataW H → Nat
  | (.string bytes, d) => bytes.length + uptoBulk d + 1
  | (_, d) => uptoBulk d + 1
 end
def uptoSmall : (H : Type) → List (DataW H) → Bool := fun _ ds => decide (uptoBulkAll ds ≤ 1048576)
def OpenSpec.upto (s : _root_.Go.ChangeSpec) : _root_.Go.OpenSpec := { _root_.Go.OpenSpec.ofChange s with cond := some uptoSmall }

/-- 'blockwaylaw12.TokenPlays', WHERE WHAT IT READS IS OF BULK AT MOST 1048576: true; the input reads as it did. -/
def tokenPlaysUptoRow : OpenClaim := { program := "ytfgpenekmokdiaa", sum := "275f2ba954c2e3d9ae8c9b549eaad6324e15f00ad98cc2e50eb8e9d89701e96c", func := "blockway/blockwaylaw12.TokenPlays", spec := "tokenPlays", unfollowed := true, recurses := true, apart := false, narrowed := true }
def TokenPlaysUptoSaid : Prop := tokenPlaysUptoRow.holds Try.pinned (OpenSpec.upto tokenPlaysSpec)

/-- 'blockwaylaw12.TokenFills', WHERE WHAT IT READS IS OF BULK AT MOST 1048576: true; the input reads as it did. -/
def tokenFillsUptoRow : OpenClaim := { program := "ytfgpenekmokdiaa", sum := "275f2ba954c2e3d9ae8c9b549eaad6324e15f00ad98cc2e50eb8e9d89701e96c", func := "blockway/blockwaylaw12.TokenFills", spec := "tokenFills", unfollowed := true, recurses := true, apart := false, narrowed := true }
def TokenFillsUptoSaid : Prop := tokenFillsUptoRow.holds Try.pinned (OpenSpec.upto tokenFillsSpec)

/-- 'blockwaylaw12.TokenBelow', WHERE WHAT IT READS IS OF BULK AT MOST 1048576: true; the input reads as it did. -/
def tokenBelowUptoRow : OpenClaim := { program := "ytfgpenekmokdiaa", sum := "275f2ba954c2e3d9ae8c9b549eaad6324e15f00ad98cc2e50eb8e9d89701e96c", func := "blockway/blockwaylaw12.TokenBelow", spec := "tokenBelow", unfollowed := true, recurses := true, apart := false, narrowed := true }
def TokenBelowUptoSaid : Prop := tokenBelowUptoRow.holds Try.pinned (OpenSpec.upto tokenBelowSpec)

/-- 'blockwaylaw12.TokenTight', WHERE WHAT IT READS IS OF BULK AT MOST 1048576: true; the input reads as it did. -/
def tokenTightUptoRow : OpenClaim := { program := "ytfgpenekmokdiaa", sum := "275f2ba954c2e3d9ae8c9b549eaad6324e15f00ad98cc2e50eb8e9d89701e96c", func := "blockway/blockwaylaw12.TokenTight", spec := "tokenTight", unfollowed := true, recurses := true, apart := false, narrowed := true }
def TokenTightUptoSaid : Prop := tokenTightUptoRow.holds Try.pinned (OpenSpec.upto tokenTightSpec)

/-- 'blockwaylaw12.TokenReached', WHERE WHAT IT READS IS OF BULK AT MOST 1048576: true; the input reads as it did. -/
def tokenReachedUptoRow : OpenClaim := { program := "ytfgpenekmokdiaa", sum := "275f2ba954c2e3d9ae8c9b549eaad6324e15f00ad98cc2e50eb8e9d89701e96c", func := "blockway/blockwaylaw12.TokenReached", spec := "tokenReached", unfollowed := true, recurses := true, apart := false, narrowed := true }
def TokenReachedUptoSaid : Prop := tokenReachedUptoRow.holds Try.pinned (OpenSpec.upto tokenReachedSpec)

/-- 'blockwaylaw12.TokenRings', WHERE WHAT IT READS IS OF BULK AT MOST 1048576: true; the input reads as it did. -/
def tokenRingsUptoRow : OpenClaim := { program := "ytfgpenekmokdiaa", sum := "275f2ba954c2e3d9ae8c9b549eaad6324e15f00ad98cc2e50eb8e9d89701e96c", func := "blockway/blockwaylaw12.TokenRings", spec := "tokenRings", unfollowed := true, recurses := true, apart := false, narrowed := true }
def TokenRingsUptoSaid : Prop := tokenRingsUptoRow.holds Try.pinned (OpenSpec.upto tokenRingsSpec)

/-- 'blockwaylaw12.TokenMoves', WHERE WHAT IT READS IS OF BULK AT MOST 1048576: true; the input reads as it did. -/
def tokenMovesUptoRow : OpenClaim := { program := "ytfgpenekmokdiaa", sum := "275f2ba954c2e3d9ae8c9b549eaad6324e15f00ad98cc2e50eb8e9d89701e96c", func := "blockway/blockwaylaw12.TokenMoves", spec := "tokenMoves", unfollowed := true, recurses := true, apart := false, narrowed := true }
def TokenMovesUptoSaid : Prop := tokenMovesUptoRow.holds Try.pinned (OpenSpec.upto tokenMovesSpec)

end Rows
end Go.Proofs.Ytfgpenekmokdiaa
