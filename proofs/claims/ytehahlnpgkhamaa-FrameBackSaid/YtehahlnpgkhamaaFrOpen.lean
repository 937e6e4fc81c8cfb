/- Arguments of types api.Frame, []uint8 and [2]int opened for the walks. -/
import Derived.Test.YtehahlnpgkhamaaOpBase
import Derived.Test.YtehahlnpgkhamaaFrCmp
namespace Go.Proofs.Ytehahlnpgkhamaa
open Go.ChangeShapes Go.WideShapes Go.ChangeAt Go.RowKit Fl

theorem bounds_u64 {n : Int} (h : (Lit.int .u64 n).wf = true) : U64 n := by
  simp [Lit.wf, IntKind.min, IntKind.max, IntKind.signed, IntKind.bits] at h
  exact ⟨by omega, by omega⟩
theorem bounds_u8 {n : Int} (h : (Lit.int .u8 n).wf = true) : 0 ≤ n ∧ n < 256 := by
  simp [Lit.wf, IntKind.min, IntKind.max, IntKind.signed, IntKind.bits] at h
  omega
theorem cellsU8 : Try.prog.cellsOf 5 = 1 := by kernel_rfl
theorem cellsU64 : Try.prog.cellsOf 22 = 1 := by kernel_rfl
theorem cellsFrm : Try.prog.cellsOf 24 = 5 := by kernel_rfl
set_option maxRecDepth 100000 in
/-- An argument of type []uint8. -/
theorem open_bytes {H : Type} {enc : TypeId × Value → H} {W : World} {v : Value} {d : DataW H} {p : List MemPlace} {base : Nat}
    (hok : Value.okWide Try.prog W .any base 25 v) (h : DataW.Trod enc Try.prog W 0 (fun _ => true) true 25 v d p) :
    ∃ (A : Option Addr) (c : Nat) (l : List Int), v = .slice A l.length c ∧ Holds W A (l.map Bv8) ∧ BytesL l := by
  obtain ⟨a0, len, cap, rfl⟩ := okWide_slice Try.underlying25 hok
  obtain ⟨fuel, hf⟩ := h
  rcases open_ints Try.underlying25 Try.underlying5 cellsU8 hf with ⟨hcs, hx⟩ | ⟨a, len', cap', zs, hcs, _, hl, hm, hz, hx, hcell, hwz⟩
  · simp [Value.cells] at hcs
    obtain ⟨rfl, rfl, rfl⟩ := hcs
    exact ⟨none, 0, [], rfl, .inl rfl, fun x hx => by cases hx⟩
  · simp [Value.cells] at hcs
    obtain ⟨rfl, rfl, rfl⟩ := hcs
    simp only [if_true] at hz
    have hlen : (zs.take len).length = len := by simp; omega
    refine ⟨some a, cap, zs.take len, by rw [hlen], ?_, fun x hx => bounds_u8 (hwz x (List.mem_of_mem_take hx))⟩
    rcases Nat.eq_zero_or_pos len with h0 | h0
    · left; subst h0; simp
    · obtain ⟨b, off, rfl, hc⟩ := ints_at hcell (by omega)
      refine .inr ⟨b, off, rfl, World.block_lt_of_cell? _ _ (hc 0 (by omega)), fun j hj => ?_⟩
      rw [List.length_map, hlen] at hj
      rw [hc j (by omega)]
      have hjz : j < zs.length := by omega
      simp [List.getD, hjz]
set_option maxRecDepth 100000 in
/-- An argument of type api.Frame. -/
theorem open_frame {H : Type} {enc : TypeId × Value → H} {W : World} {v : Value} {d : DataW H} {p : List MemPlace} {base : Nat}
    (hok : Value.okWide Try.prog W .any base 24 v) (h : DataW.Trod enc Try.prog W 0 (fun _ => true) true 24 v d p) :
    ∃ f : FrD, v = FV f ∧ p = [] ∧ U64 f.seq ∧ (-9223372036854775808 ≤ f.kind ∧ f.kind ≤ 9223372036854775807) ∧ (-9223372036854775808 ≤ f.robot ∧ f.robot ≤ 9223372036854775807) ∧ (-9223372036854775808 ≤ f.cell ∧ f.cell ≤ 9223372036854775807) ∧ (-9223372036854775808 ≤ f.flag ∧ f.flag ≤ 9223372036854775807) := by
  obtain ⟨cs, rfl, hcs⟩ := okWide_struct Try.underlying24 hok
  obtain ⟨fuel, hf⟩ := h
  obtain ⟨xs, n, rfl, hx, hlen, hxl, hf⟩ := DataW.trod_struct Try.underlying24 hf
  simp only [Value.cells] at hlen hf
  rw [cellsFrm] at hlen
  obtain ⟨l⟩ := cs
  match xs, hxl, l, hlen with
  | [y0, y1, y2, y3, y4], _, [v0, v1, v2, v3, v4], _ =>
    have g0 := hf 0 _ rfl
    have g1 := hf 1 _ rfl
    have g2 := hf 2 _ rfl
    have g3 := hf 3 _ rfl
    have g4 := hf 4 _ rfl
    simp [cellsInt, cellsU64] at g0 g1 g2 g3 g4
    obtain ⟨a, e0, f0, w0⟩ := DataW.trod_int Try.underlying3 g0
    obtain ⟨b, e1, f1, w1⟩ := DataW.trod_int Try.underlying3 g1
    obtain ⟨s, e2, f2, w2⟩ := DataW.trod_int Try.underlying22 g2
    obtain ⟨c, e3, f3, w3⟩ := DataW.trod_int Try.underlying3 g3
    obtain ⟨g, e4, f4, w4⟩ := DataW.trod_int Try.underlying3 g4
    simp only [List.cons.injEq, and_true] at e0 e1 e2 e3 e4
    subst e0 e1 e2 e3 e4 f0 f1 f2 f3 f4
    exact ⟨⟨a, b, s, c, g⟩, rfl, by simpa using congrArg Prod.snd hx, bounds_u64 w2, bounds_i64 w0, bounds_i64 w1, bounds_i64 w3, bounds_i64 w4⟩
set_option maxRecDepth 100000 in
/-- An argument of type [2]int. -/
theorem open_two {H : Type} {enc : TypeId × Value → H} {W : World} {v : Value} {d : DataW H} {p : List MemPlace} {base : Nat}
    (hok : Value.okWide Try.prog W .any base 27 v) (h : DataW.Trod enc Try.prog W 0 (fun _ => true) true 27 v d p) :
    ∃ a b : Int, v = .agg #[.int .i64 a, .int .i64 b] ∧ p = [] ∧ (-9223372036854775808 ≤ a ∧ a ≤ 9223372036854775807) ∧ (-9223372036854775808 ≤ b ∧ b ≤ 9223372036854775807) := by
  obtain ⟨cs, rfl, hcs⟩ := okWide_arr Try.underlying27 hok
  obtain ⟨fuel, hf⟩ := h
  obtain ⟨xs, n, rfl, hx, hlen, hxl, hf⟩ := DataW.trod_array Try.underlying27 hf
  simp only [Value.cells] at hlen hf
  rw [show Try.prog.cellsOf 27 = 2 by kernel_rfl] at hlen
  obtain ⟨l⟩ := cs
  match xs, hxl, l, hlen with
  | [y0, y1], _, [v0, v1], _ =>
    have g0 := hf 0 (by omega)
    have g1 := hf 1 (by omega)
    simp [cellsInt] at g0 g1
    obtain ⟨a, e0, f0, w0⟩ := DataW.trod_int Try.underlying3 g0
    obtain ⟨b, e1, f1, w1⟩ := DataW.trod_int Try.underlying3 g1
    simp only [List.cons.injEq, and_true] at e0 e1
    subst e0 e1 f0 f1
    exact ⟨a, b, rfl, by simpa using congrArg Prod.snd hx, bounds_i64 w0, bounds_i64 w1⟩
end Go.Proofs.Ytehahlnpgkhamaa
