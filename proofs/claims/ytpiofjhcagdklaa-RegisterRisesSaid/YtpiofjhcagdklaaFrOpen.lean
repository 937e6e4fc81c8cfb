/- Arguments of types api.Frame, []uint8 and [2]int opened for the walks. -/
import Derived.Test.YtpiofjhcagdklaaOpBase
import Derived.Test.YtpiofjhcagdklaaFrCmp
namespace Go.Proofs.Ytpiofjhcagdklaa
open Go.ChangeShapes Go.WideShapes Go.ChangeAt Go.RowKit Fl

theorem bounds_u64 {n : Int} (h : (Lit.int .u64 n).wf = true) : U64 n := by
  simp [Lit.wf, IntKind.min, IntKind.max, IntKind.signed, IntKind.bits] at h
  exact ⟨by omega, by omega⟩
theorem bounds_u8 {n : Int} (h : (Lit.int .u8 n).wf = true) : 0 ≤ n ∧ n < 256 := by
  simp [Lit.wf, IntKind.min, IntKind.max, IntKind.signed, IntKind.bits] at h
  omega
theorem cellsU8 : Try.prog.cellsOf 5 = 1 := by kernel_rfl
theorem cellsU64 : Try.prog.cellsOf 22 = 1 := by kernel_rfl
theorem cellsFrm : Try.prog.cellsOf 35 = 5 := by kernel_rfl
set_option maxRecDepth 100000 in
/-- An argument of type api.Frame. -/
theorem open_frame {H : Type} {enc : TypeId × Value → H} {W : World} {v : Value} {d : DataW H} {p : List MemPlace} {base : Nat}
    (hok : Value.okWide Try.prog W .any base 35 v) (h : DataW.Trod enc Try.prog W 0 (fun _ => true) true 35 v d p) :
    ∃ f : FrD, v = FV f ∧ p = [] ∧ U64 f.seq ∧ (-9223372036854775808 ≤ f.kind ∧ f.kind ≤ 9223372036854775807) ∧ (-9223372036854775808 ≤ f.robot ∧ f.robot ≤ 9223372036854775807) ∧ (-9223372036854775808 ≤ f.cell ∧ f.cell ≤ 9223372036854775807) ∧ (-9223372036854775808 ≤ f.flag ∧ f.flag ≤ 9223372036854775807) := by
  obtain ⟨cs, rfl, hcs⟩ := okWide_struct Try.underlying35 hok
  obtain ⟨fuel, hf⟩ := h
  obtain ⟨xs, n, rfl, hx, hlen, hxl, hf⟩ := DataW.trod_struct Try.underlying35 hf
  simp only [Value.cells] at hlen hf
  rw [cellsFrm] at hlen
  obtain ⟨l⟩ := cs
  match xs, hxl, l, hlen with
  | [y0, y1, y2, y3, y4], _, [v0, v1, v2, v3, v4], _ =>
    have g0 := hf 0 _ rfl
    have g1 := hf 1 _ rfl
    have g2 := hf 2 _ rfl
    have g3 := hf 3 _ rfl
    have g4 := hf 4 _ rfl
    simp [cellsInt, cellsU64] at g0 g1 g2 g3 g4
    obtain ⟨a, e0, f0, w0⟩ := DataW.trod_int Try.underlying3 g0
    obtain ⟨b, e1, f1, w1⟩ := DataW.trod_int Try.underlying3 g1
    obtain ⟨s, e2, f2, w2⟩ := DataW.trod_int Try.underlying22 g2
    obtain ⟨c, e3, f3, w3⟩ := DataW.trod_int Try.underlying3 g3
    obtain ⟨g, e4, f4, w4⟩ := DataW.trod_int Try.underlying3 g4
    simp only [List.cons.injEq, and_true] at e0 e1 e2 e3 e4
    subst e0 e1 e2 e3 e4 f0 f1 f2 f3 f4
    exact ⟨⟨a, b, s, c, g⟩, rfl, by simpa using congrArg Prod.snd hx, bounds_u64 w2, bounds_i64 w0, bounds_i64 w1, bounds_i64 w3, bounds_i64 w4⟩
end Go.Proofs.Ytpiofjhcagdklaa
