/- Contract of the reference's Square of layer 8. -/
import Derived.Test.YtifnmfljlgaeoaaPlMove
namespace Go.Proofs.Ytifnmfljlgaeoaa
open Go Go.RowKit Fl

set_option maxRecDepth 100000 in
set_option maxHeartbeats 4000000 in
theorem refSquare_c (a b : BlockD) (w : World) : Calls Try.prog 28 #[BV a, BV b] w fun e w' => e = .returned (.tuple #[.int .i64 (squareR a b), .int .i64 (twoBE a b)]) ∧ Below w.heap.size w w' := by
  obtain ⟨ha, hb, hw⟩ := two_new w a b
  have HA := Lib.hid ha
  have HB := Lib.hid hb
  have HW := Lib.hid hw
  obtain ⟨a0, a1, a2⟩ := ha.cell
  obtain ⟨b0, b1, b2⟩ := hb.cell
  clear ha hb hw
  rcases bool2 (okB a) (okB b) with h1 | ⟨h1, h2⟩ | ⟨h1, h2⟩
  · have e0 : twoB a b = false := by unfold twoB; rw [h1]; rfl
    have e1 : squareR a b = 0 := by unfold squareR; rw [e0]; rfl
    have e2 : twoBE a b = 19 := by unfold twoBE; rw [e0]; rfl
    have CA := Lib.hid (valid_is a false h1)
    rw [e1, e2]
    clear e0 e1 e2
    go_enter Try.func28, Try.ntmps28
    go_wp2_with fail
    refine (CA.out _).mono ?_
    rintro e w2 ⟨rfl, hb2⟩
    have HB2 := Lib.hid (HW.out.trans (hb2.mono HW.out.size))
    clear hb2 a0 a1 a2 b0 b1 b2
    go_wp2
    go_ret2
    exact ⟨rfl, HB2.out⟩
  · have e0 : twoB a b = false := by unfold twoB; rw [h1, h2]; rfl
    have e1 : squareR a b = 0 := by unfold squareR; rw [e0]; rfl
    have e2 : twoBE a b = 19 := by unfold twoBE; rw [e0]; rfl
    have CA := Lib.hid (valid_is a true h1)
    have CB := Lib.hid (valid_is b false h2)
    rw [e1, e2]
    clear e0 e1 e2
    go_enter Try.func28, Try.ntmps28
    go_wp2_with fail
    refine (CA.out _).mono ?_
    rintro e w2 ⟨rfl, hb2⟩
    have HB2 := Lib.hid (HW.out.trans (hb2.mono HW.out.size))
    have HBb := Lib.hid (HB.out.keep hb2)
    clear hb2 a0 a1 a2 b0 b1 b2
    obtain ⟨b0, b1, b2⟩ := HBb.out.cell
    go_wp2_with fail
    refine (CB.out _).mono ?_
    rintro e w3 ⟨rfl, hb3⟩
    have HB3 := Lib.hid (HB2.out.trans (hb3.mono HB2.out.size))
    clear hb3 b0 b1 b2
    go_wp2
    go_ret2
    exact ⟨rfl, HB3.out⟩
  · have e0 : twoB a b = true := by unfold twoB; rw [h1, h2]; rfl
    have e1 : squareR a b = (b.x - a.x) * (b.x - a.x) + (b.y - a.y) * (b.y - a.y) := by unfold squareR; rw [e0]; rfl
    have e2 : twoBE a b = 0 := by unfold twoBE; rw [e0]; rfl
    have CA := Lib.hid (valid_is a true h1)
    have CB := Lib.hid (valid_is b true h2)
    have CS := Lib.hid (step_is h1 h2)
    have ka := okB_iff.1 h1
    have kb := okB_iff.1 h2
    rw [e1, e2]
    obtain ⟨x, hx⟩ : ∃ x, b.x - a.x = x := ⟨_, rfl⟩
    obtain ⟨y, hy⟩ : ∃ y, b.y - a.y = y := ⟨_, rfl⟩
    rw [hx, hy] at CS ⊢
    have m1 := mul_bound (a := x) (b := x) (A := 19998) (B := 19998) (by omega) (by omega)
    have m2 := mul_bound (a := y) (b := y) (A := 19998) (B := 19998) (by omega) (by omega)
    have hw1 : IntKind.i64.wrap (x * x) = x * x := wrap_in (by omega)
    have hw2 : IntKind.i64.wrap (y * y) = y * y := wrap_in (by omega)
    have hw3 : IntKind.i64.wrap (x * x + y * y) = x * x + y * y := wrap_in (by omega)
    clear e0 e1 e2 ka kb m1 m2 hx hy
    go_enter Try.func28, Try.ntmps28
    go_wp2_with fail
    refine (CA.out _).mono ?_
    rintro e w2 ⟨rfl, hb2⟩
    have HB2 := Lib.hid (HW.out.trans (hb2.mono HW.out.size))
    have HAb := Lib.hid (HA.out.keep hb2)
    have HBb := Lib.hid (HB.out.keep hb2)
    clear hb2 a0 a1 a2 b0 b1 b2
    obtain ⟨b0, b1, b2⟩ := HBb.out.cell
    go_wp2_with fail
    refine (CB.out _).mono ?_
    rintro e w3 ⟨rfl, hb3⟩
    have HB3 := Lib.hid (HB2.out.trans (hb3.mono HB2.out.size))
    clear b0 b1 b2
    obtain ⟨a0, a1, a2⟩ := (HAb.out.keep hb3).cell
    obtain ⟨b0, b1, b2⟩ := (HBb.out.keep hb3).cell
    clear hb3
    go_wp2_with fail
    refine (CS.out _).mono ?_
    rintro e w4 ⟨rfl, hb4⟩
    have HB4 := Lib.hid (HB3.out.trans (hb4.mono HB3.out.size))
    clear hb4 a0 a1 a2 b0 b1 b2
    go_wp2
    go_ret2
    exact ⟨rfl, HB4.out⟩
end Go.Proofs.Ytifnmfljlgaeoaa
