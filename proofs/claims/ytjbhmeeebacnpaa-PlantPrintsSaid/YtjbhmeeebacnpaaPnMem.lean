/- Bodies in memory. -/
import Derived.Test.YtjbhmeeebacnpaaPnSpec
import Derived.Test.YtjbhmeeebacnpaaStMem
import Derived.Laws.StructEq
namespace Go.Proofs.Ytjbhmeeebacnpaa
open Go Go.RowKit Fl

abbrev BV (b : BodD) : Value := .agg #[.int .i64 b.cel, .int .i64 b.dst, .bool b.srv, .bool b.flt]
abbrev BC (b : BodD) : Array Value := #[.int .i64 b.cel, .int .i64 b.dst, .bool b.srv, .bool b.flt]
def bodS : StK BodD where
  f b := [.int .i64 b.cel, .int .i64 b.dst, .bool b.srv, .bool b.flt]
  k := 4
  e := 40
  t := 30
  z := .agg #[.int .i64 0, .int .i64 0, .bool false, .bool false]
  bytes := 24
  pos := by decide
  zsize := rfl
  len _ := rfl
  one b u hu := by
    simp only [List.mem_cons, List.not_mem_nil, or_false] at hu
    rcases hu with rfl | rfl | rfl | rfl <;> rfl
  under := Try.underlying30
  info := by kernel_rfl
  small := by decide
theorem bod_cells {w : World} {b o : Nat} {q : BodD} (h : bodS.At w b o q) : w.cell? ⟨b, o, none⟩ = some (.int .i64 q.cel) ∧ w.cell? ⟨b, o + 1, none⟩ = some (.int .i64 q.dst) ∧ w.cell? ⟨b, o + 2, none⟩ = some (.bool q.srv) ∧ w.cell? ⟨b, o + 3, none⟩ = some (.bool q.flt) :=
  ⟨h 0 _ rfl, h 1 _ rfl, h 2 _ rfl, h 3 _ rfl⟩
theorem bod_eq (f g : BodD) (W : World) : (Op.equalIn 10000 40 (BV f) (BV g)).run Try.prog W = .ok (decide (f = g)) W := by
  have hz := Try.underlying40
  rw [run_equalIn_agg W 9999 _ _ _ (by kernel_rfl) (by kernel_rfl)]
  simp only [Program.fieldsOf, hz]
  simp [go_sem]
  obtain ⟨a0, a1, a2, a3⟩ := f
  obtain ⟨b0, b1, b2, b3⟩ := g
  simp only [BodD.mk.injEq]
  by_cases h0 : a0 = b0 <;> by_cases h1 : a1 = b1 <;> by_cases h2 : a2 = b2 <;> by_cases h3 : a3 = b3 <;> simp [h0, h1, h2, h3]
theorem guard_bod (op : BinOp) (x y : Operand) (xs ys : Array Value) (W : World) : (eqGuard op 40 x y (.agg xs) (.agg ys)).run Try.prog W = .ok () W := run_eqGuard_agg W _ _ _ _ _ _ (by kernel_rfl)
end Go.Proofs.Ytjbhmeeebacnpaa
