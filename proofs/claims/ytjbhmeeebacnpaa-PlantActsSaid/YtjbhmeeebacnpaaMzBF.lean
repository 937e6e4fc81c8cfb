/- Joined texts. -/
import Derived.Test.YtjbhmeeebacnpaaMzBE
import Derived.Test.YtjbhmeeebacnpaaMzAW
namespace Go.Proofs.Ytjbhmeeebacnpaa
open Go.ChangeShapes Go.WideShapes Go.ChangeAt Go.RowKit Go.Deep Fl

set_option maxRecDepth 100000 in
/-- The four cells of a body. -/
theorem trod_bod {H : Type} {enc : TypeId × Value → H} {W : World} (fuel : Nat) (cs : List Value) (x : DataW H × List MemPlace) (h : DataW.trod enc Try.prog W 0 (fun _ => true) true fuel 40 cs = some x) :
    ∃ b : BodD, cs = bodS.f b ∧ FitB b := by
  obtain ⟨xs, n, rfl, rfl, hlen, hxl, hf⟩ := DataW.trod_struct Try.underlying40 h
  rw [show Try.prog.cellsOf 40 = 4 by kernel_rfl] at hlen
  match xs, hxl, cs, hlen with
  | [y0, y1, y2, y3], _, [v0, v1, v2, v3], _ =>
    have g0 := hf 0 _ rfl
    have g1 := hf 1 _ rfl
    have g2 := hf 2 _ rfl
    have g3 := hf 3 _ rfl
    simp [cellsInt, show Try.prog.cellsOf 4 = 1 by kernel_rfl] at g0 g1 g2 g3
    obtain ⟨a, e0, f0, w0⟩ := DataW.trod_int Try.underlying3 g0
    obtain ⟨b, e1, f1, w1⟩ := DataW.trod_int Try.underlying3 g1
    obtain ⟨s, e2, f2⟩ := DataW.trod_bool Try.underlying4 g2
    obtain ⟨g, e3, f3⟩ := DataW.trod_bool Try.underlying4 g3
    simp only [List.cons.injEq, and_true] at e0 e1 e2 e3
    subst e0 e1 e2 e3
    exact ⟨⟨a, b, s, g⟩, rfl, w0, w1⟩
set_option maxRecDepth 100000 in
/-- An argument of type []api.Body. -/
theorem open_bodies {H : Type} {enc : TypeId × Value → H} {W : World} {v : Value} {d : DataW H} {p : List MemPlace} {base : Nat}
    (hok : Value.okWide Try.prog W .any base 30 v) (h : DataW.Trod enc Try.prog W 0 (fun _ => true) true 30 v d p) (hw : ∀ n ∈ d.weights Try.prog 30, n ≤ reachBytes) :
    ∃ (A : Option Addr) (c : Nat) (l : List BodD), v = .slice A l.length c ∧ Holds W A (bodS.cs l) ∧ (∀ b ∈ l, FitB b) ∧ l.length ≤ 5864062014805 := by
  obtain ⟨a0, len0, cap0, rfl⟩ := okWide_slice Try.underlying30 hok
  obtain ⟨fuel, hf⟩ := h
  haveI : Inhabited BodD := ⟨zeroB⟩
  have hb : Try.prog.bytesOf 40 = 24 := by kernel_rfl
  obtain ⟨A, c, l, hv, hh, _, _, hq, hl⟩ := open_structsB bodS.f (k := 4) (by omega) (fun _ => rfl) (fun b _ => FitB b) Try.underlying30 (by kernel_rfl) (by rw [hb]; omega) (fun fu cs x hx => trod_bod fu cs x hx) (v := .slice a0 len0 cap0) (d := d) (p := p) hf hw
  refine ⟨A, c, l, hv, hh, fun b hb => (hq b hb).choose_spec.1, ?_⟩
  rw [hb] at hl
  unfold reachBytes at hl
  omega
end Go.Proofs.Ytjbhmeeebacnpaa
namespace Go.Proofs.Ytjbhmeeebacnpaa
open Go.ChangeShapes Go.WideShapes Go.ChangeAt Go.RowKit Go.Deep Fl

set_option maxRecDepth 100000 in
/-- An argument of type [3]int: three numbers in range. -/
theorem nt_threeB {H : Type} {enc : TypeId × Value → H} {W : World} {v : Value} {d : DataW H} {p : List MemPlace} {base : Nat}
    (hok : Value.okWide Try.prog W .any base 31 v) (h : DataW.Trod enc Try.prog W 0 (fun _ => true) true 31 v d p) :
    ∃ a b c : Int, v = .agg #[.int .i64 a, .int .i64 b, .int .i64 c] ∧ p = [] ∧ (-9223372036854775808 ≤ a ∧ a ≤ 9223372036854775807) ∧ (-9223372036854775808 ≤ b ∧ b ≤ 9223372036854775807) ∧ (-9223372036854775808 ≤ c ∧ c ≤ 9223372036854775807) := by
  obtain ⟨cs, rfl, hcs⟩ := nt_arr Try.underlying31 hok
  obtain ⟨fuel, hf⟩ := h
  obtain ⟨xs, n, rfl, hx, hlen, hxl, hf⟩ := DataW.trod_array Try.underlying31 hf
  simp only [Value.cells] at hlen hf
  rw [show Try.prog.cellsOf 31 = 3 by kernel_rfl] at hlen
  obtain ⟨l⟩ := cs
  match xs, hxl, l, hlen with
  | [y0, y1, y2], _, [v0, v1, v2], _ =>
    have g0 := hf 0 (by omega)
    have g1 := hf 1 (by omega)
    have g2 := hf 2 (by omega)
    simp [cellsInt] at g0 g1 g2
    obtain ⟨a, e0, f0, w0⟩ := DataW.trod_int Try.underlying3 g0
    obtain ⟨b, e1, f1, w1⟩ := DataW.trod_int Try.underlying3 g1
    obtain ⟨c, e2, f2, w2⟩ := DataW.trod_int Try.underlying3 g2
    simp only [List.cons.injEq, and_true] at e0 e1 e2
    subst e0 e1 e2 f0 f1 f2
    exact ⟨a, b, c, rfl, by simpa using congrArg Prod.snd hx, bounds_i64 w0, bounds_i64 w1, bounds_i64 w2⟩
set_option maxRecDepth 100000 in
/-- An argument of type [3]int. -/
theorem nt_three {H : Type} {enc : TypeId × Value → H} {W : World} {v : Value} {d : DataW H} {p : List MemPlace} {base : Nat}
    (hok : Value.okWide Try.prog W .any base 31 v) (h : DataW.Trod enc Try.prog W 0 (fun _ => true) true 31 v d p) :
    ∃ a b c : Int, v = .agg #[.int .i64 a, .int .i64 b, .int .i64 c] ∧ p = [] := by
  obtain ⟨a, b, c, h1, h2, _⟩ := nt_threeB hok h
  exact ⟨a, b, c, h1, h2⟩
end Go.Proofs.Ytjbhmeeebacnpaa
