/- Appending a list of lines to a list of lines of the call's own. -/
import Derived.Test.YtpglhidhghhmoaaDoorLyLinesMade
import Derived.OwnWalk
namespace Go.Proofs.YtpglhidhghhmoaaDoor
open Go.RowKit Fl

theorem run_append_none {P : Program} (w : World) (t ty e : TypeId) (i : TypeInfo) (ht : P.underlying t = some (.slice e)) (hi : P.info? e = some i) (A : Option Addr) (n c : Nat) (hnc : n ≤ c) :
    (Builtin.append_ #[t, t] ty #[.slice A n c, .slice none 0 0]).run P w = .ok (.slice A n c) w := by
  cases A with
  | none => simp [Builtin.append_, run_underlying ht, sizeOf, typeInfo, hi, Builtin.lenOf, hnc, run_firstCells_none]
  | some a => simp [Builtin.append_, run_underlying ht, sizeOf, typeInfo, hi, Builtin.lenOf, hnc, run_firstCells_none, storeCells]
theorem wpList_append_none {P : Program} (w : World) {ops : Array Oper} {rest : List Oper} {o : Oper} {a : Act} {Q : Exit → Act → World → Prop}
    (hg : o.guard = none) (s x : Operand) (t : TypeId) (hop : o.op = Op.call { callee := Callee.builtin Builtin.append, args := #[s, x], argTypes := #[t, t] })
    (e : TypeId) (i : TypeInfo) (h1 : P.underlying t = some (.slice e)) (h2 : P.info? e = some i) (A : Option Addr) (n c : Nat) (hnc : n ≤ c) (hs : a.eval s = .slice A n c) (hx : a.eval x = .slice none 0 0)
    (hK : wpList P ops Q rest (a.put o.dst (.slice A n c)) w) : wpList P ops Q (o :: rest) a w := by
  refine wpList_plain hg fun K hK' => ?_
  have hrun := run_append_none (P := P) w t o.type e i h1 h2 A n c hnc
  unfold Oper.wp
  simp [execOp, hop, resolve, invoke, builtin, hs, hx, hrun, Result.andThen]
  exact hK' _ _ hK
theorem lineCells_append : ∀ (l1 : List LineD) (f1 : List Value) (l2 : List LineD) (f2 : List Value), f1.length = l1.length → lineCells (l1 ++ l2) (f1 ++ f2) = lineCells l1 f1 ++ lineCells l2 f2
  | [], [], _, _, _ => rfl
  | [], _ :: _, _, _, h => by simp at h
  | _ :: _, [], _, _, h => by simp at h
  | a :: l1, b :: f1, l2, f2, h => by
    simp only [List.cons_append, lineCells]
    rw [lineCells_append l1 f1 l2 f2 (by simpa using h)]
/-- Lines of the call's own, behind lines of the call's own. -/
theorem LinesOwn.append {w w3 : World} {base base2 : Nat} {v v' : Value} {l1 l2 : List LineD} {f1 f2 : List Value} (hb : base ≤ base2)
    (hl1 : f1.length = l1.length) (hown : w.ownsRow base 58 2 v l1.length (lineCells l1 f1)) (hf1 : ∀ (i : Nat) (fv : Value) (l : LineD), f1[i]? = some fv → l1[i]? = some l → w.ownsRow base 9 1 fv l.2.length (l.2.map S))
    (hl2 : f2.length = l2.length) (hf2 : ∀ (i : Nat) (fv : Value) (l : LineD), f2[i]? = some fv → l2[i]? = some l → w.ownsRow base2 9 1 fv l.2.length (l.2.map S))
    (hg : w.grownBy w3 v.ownBlock) (h3 : w3.ownsRow base 58 2 v' (l1.length + l2.length) (lineCells l1 f1 ++ lineCells l2 f2)) : LinesOwn w3 base v' (l1 ++ l2) := by
  refine ⟨f1 ++ f2, by simp [hl1, hl2], by rw [lineCells_append l1 f1 l2 f2 hl1]; simpa using h3, fun i fv l g1 g2 => ?_⟩
  have keep : ∀ {fv : Value} {ss : List (List UInt8)}, w.ownsRow base 9 1 fv ss.length (ss.map S) → w3.ownsRow base 9 1 fv ss.length (ss.map S) := fun h => ownsRow_apart h hown (by decide) hg
  rcases Nat.lt_or_ge i l1.length with hi | hi
  · rw [List.getElem?_append_left (by omega)] at g1 g2
    exact keep (hf1 i fv l g1 g2)
  · rw [List.getElem?_append_right (by omega)] at g1 g2
    rw [hl1] at g1
    exact keep (ownsRow_base (hf2 _ fv l g1 g2) hb)
end Go.Proofs.YtpglhidhghhmoaaDoor
