/- An argument of type [2]int opened for the walks. -/
import Derived.Test.YtcfnilemikenhaaCgOpen
import Derived.WideKeyArr2
namespace Go.Proofs.Ytcfnilemikenhaa
open Go.ChangeShapes Go.WideShapes Go.ChangeAt Go.RowKit Go.Deep Fl

theorem cellsPair : Try.prog.cellsOf 24 = 2 := by kernel_rfl
set_option maxRecDepth 100000 in
theorem open_pair {H : Type} {enc : TypeId × Value → H} {W : World} {v : Value} {d : DataW H} {p : List MemPlace} {base : Nat}
    (hok : Value.okWide Try.prog W .any base 24 v) (h : DataW.Trod enc Try.prog W 0 (fun _ => true) true 24 v d p) :
    ∃ a b : Int, v = .agg #[.int .i64 a, .int .i64 b] := by
  have hu := Try.underlying24
  simp only [Value.okWide, hu] at hok
  obtain ⟨xs, rfl, h2, _⟩ := hok
  rw [cellsPair] at h2
  obtain ⟨fuel, hf⟩ := h
  cases fuel with
  | zero => simp [DataW.trod] at hf
  | succ m =>
    rw [DataW.trod_step] at hf
    unfold DataW.trodStep at hf
    simp only [hu, Value.cells] at hf
    rw [if_pos (by rw [cellsPair]; simpa using h2)] at hf
    simp only [Option.map_eq_some_iff] at hf
    obtain ⟨ys, hy, _⟩ := hf
    rw [show List.range 2 = [0, 1] from rfl, List.mapM_cons, List.mapM_cons] at hy
    simp only [bind, Option.bind_eq_some_iff, pure, Option.some.injEq] at hy
    obtain ⟨y0, e0, z, ⟨y1, e1, _⟩, _⟩ := hy
    obtain ⟨a, ea, _, _⟩ := DataW.trod_int Try.underlying3 e0
    obtain ⟨b, eb, _, _⟩ := DataW.trod_int Try.underlying3 e1
    rw [cellsInt] at ea eb
    match xs, h2 with
    | ⟨[x0, x1]⟩, _ =>
      refine ⟨a, b, ?_⟩
      simp at ea eb
      rw [ea, eb]
end Go.Proofs.Ytcfnilemikenhaa
