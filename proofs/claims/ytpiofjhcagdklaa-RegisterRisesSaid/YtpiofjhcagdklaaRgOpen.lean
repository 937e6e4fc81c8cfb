/- Arguments of types api.Sender, [3]int and [2]uint64 opened for the walks. -/
import Derived.Test.YtpiofjhcagdklaaFrOpen
import Derived.Test.YtpiofjhcagdklaaRgDev
namespace Go.Proofs.Ytpiofjhcagdklaa
open Go.ChangeShapes Go.WideShapes Go.ChangeAt Go.RowKit Fl

theorem cellsBoolS : Try.prog.cellsOf 4 = 1 := by kernel_rfl
theorem cellsSnd : Try.prog.cellsOf 24 = 4 := by kernel_rfl
set_option maxRecDepth 100000 in
/-- An argument of type api.Sender. -/
theorem open_sender {H : Type} {enc : TypeId × Value → H} {W : World} {v : Value} {d : DataW H} {p : List MemPlace} {base : Nat}
    (hok : Value.okWide Try.prog W .any base 24 v) (h : DataW.Trod enc Try.prog W 0 (fun _ => true) true 24 v d p) :
    ∃ f : SndD, v = SV f ∧ p = [] ∧ U64 f.seq := by
  obtain ⟨cs, rfl, hcs⟩ := okWide_struct Try.underlying24 hok
  obtain ⟨fuel, hf⟩ := h
  obtain ⟨xs, n, rfl, hx, hlen, hxl, hf⟩ := DataW.trod_struct Try.underlying24 hf
  simp only [Value.cells] at hlen hf
  rw [cellsSnd] at hlen
  obtain ⟨l⟩ := cs
  match xs, hxl, l, hlen with
  | [y0, y1, y2, y3], _, [v0, v1, v2, v3], _ =>
    have g0 := hf 0 _ rfl
    have g1 := hf 1 _ rfl
    have g2 := hf 2 _ rfl
    have g3 := hf 3 _ rfl
    simp [cellsInt, cellsU64, cellsBoolS] at g0 g1 g2 g3
    obtain ⟨a, e0, f0, w0⟩ := DataW.trod_int Try.underlying22 g0
    obtain ⟨b, e1, f1⟩ := DataW.trod_bool Try.underlying4 g1
    obtain ⟨c, e2, f2, w2⟩ := DataW.trod_int Try.underlying3 g2
    obtain ⟨g, e3, f3, w3⟩ := DataW.trod_int Try.underlying3 g3
    simp only [List.cons.injEq, and_true] at e0 e1 e2 e3
    subst e0 e1 e2 e3 f0 f1 f2 f3
    exact ⟨⟨a, b, c, g⟩, rfl, by simpa using congrArg Prod.snd hx, bounds_u64 w0⟩
set_option maxRecDepth 100000 in
/-- An argument of type [3]int. -/
theorem open_three {H : Type} {enc : TypeId × Value → H} {W : World} {v : Value} {d : DataW H} {p : List MemPlace} {base : Nat}
    (hok : Value.okWide Try.prog W .any base 25 v) (h : DataW.Trod enc Try.prog W 0 (fun _ => true) true 25 v d p) :
    ∃ a b c : Int, v = .agg #[.int .i64 a, .int .i64 b, .int .i64 c] ∧ p = [] ∧ (-9223372036854775808 ≤ a ∧ a ≤ 9223372036854775807) ∧ (-9223372036854775808 ≤ b ∧ b ≤ 9223372036854775807) ∧ (-9223372036854775808 ≤ c ∧ c ≤ 9223372036854775807) := by
  obtain ⟨cs, rfl, hcs⟩ := okWide_arr Try.underlying25 hok
  obtain ⟨fuel, hf⟩ := h
  obtain ⟨xs, n, rfl, hx, hlen, hxl, hf⟩ := DataW.trod_array Try.underlying25 hf
  simp only [Value.cells] at hlen hf
  rw [show Try.prog.cellsOf 25 = 3 by kernel_rfl] at hlen
  obtain ⟨l⟩ := cs
  match xs, hxl, l, hlen with
  | [y0, y1, y2], _, [v0, v1, v2], _ =>
    have g0 := hf 0 (by omega)
    have g1 := hf 1 (by omega)
    have g2 := hf 2 (by omega)
    simp [cellsInt] at g0 g1 g2
    obtain ⟨a, e0, f0, w0⟩ := DataW.trod_int Try.underlying3 g0
    obtain ⟨b, e1, f1, w1⟩ := DataW.trod_int Try.underlying3 g1
    obtain ⟨c, e2, f2, w2⟩ := DataW.trod_int Try.underlying3 g2
    simp only [List.cons.injEq, and_true] at e0 e1 e2
    subst e0 e1 e2 f0 f1 f2
    exact ⟨a, b, c, rfl, by simpa using congrArg Prod.snd hx, bounds_i64 w0, bounds_i64 w1, bounds_i64 w2⟩
set_option maxRecDepth 100000 in
/-- An argument of type [2]uint64. -/
theorem open_two64 {H : Type} {enc : TypeId × Value → H} {W : World} {v : Value} {d : DataW H} {p : List MemPlace} {base : Nat}
    (hok : Value.okWide Try.prog W .any base 26 v) (h : DataW.Trod enc Try.prog W 0 (fun _ => true) true 26 v d p) :
    ∃ a b : Int, v = .agg #[.int .u64 a, .int .u64 b] ∧ p = [] ∧ U64 a ∧ U64 b := by
  obtain ⟨cs, rfl, hcs⟩ := okWide_arr Try.underlying26 hok
  obtain ⟨fuel, hf⟩ := h
  obtain ⟨xs, n, rfl, hx, hlen, hxl, hf⟩ := DataW.trod_array Try.underlying26 hf
  simp only [Value.cells] at hlen hf
  rw [show Try.prog.cellsOf 26 = 2 by kernel_rfl] at hlen
  obtain ⟨l⟩ := cs
  match xs, hxl, l, hlen with
  | [y0, y1], _, [v0, v1], _ =>
    have g0 := hf 0 (by omega)
    have g1 := hf 1 (by omega)
    simp [cellsU64] at g0 g1
    obtain ⟨a, e0, f0, w0⟩ := DataW.trod_int Try.underlying22 g0
    obtain ⟨b, e1, f1, w1⟩ := DataW.trod_int Try.underlying22 g1
    simp only [List.cons.injEq, and_true] at e0 e1
    subst e0 e1 f0 f1
    exact ⟨a, b, rfl, by simpa using congrArg Prod.snd hx, bounds_u64 w0, bounds_u64 w1⟩
end Go.Proofs.Ytpiofjhcagdklaa
