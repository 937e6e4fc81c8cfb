/- The example of chapter 15. -/
import Derived.Test.YtpiofjhcagdklaaRgDev
import Derived.Deep.RegionHeld3
import Derived.Deep.DeepCutAuto
namespace Go.Proofs.Ytpiofjhcagdklaa
open Go Go.RowKit Fl

theorem u64_0 : U64 0 := ⟨by decide, by decide⟩
theorem u64_1 : U64 1 := ⟨by decide, by decide⟩
set_option maxRecDepth 100000 in
set_option maxHeartbeats 1000000 in
theorem known15_c (w : World) : Calls Try.prog 5 #[] w fun e w' => e = .returned (.bool true) ∧ Below w.heap.size w w' := by
  have C1 : Hid (∀ W, Calls Try.prog 7 #[SV zeroSn, .int .i64 3, .int .i64 1] W (fun e w' => e = .returned (.tuple #[SV ⟨1, true, 3, 1⟩, .int .i64 0]) ∧ Below W.heap.size W w')) := Lib.hid (fun W => offer_c zeroSn 3 1 W u64_0)
  have C2 : Hid (∀ W, Calls Try.prog 7 #[SV ⟨1, true, 3, 1⟩, .int .i64 4, .int .i64 0] W (fun e w' => e = .returned (.tuple #[SV zeroSn, .int .i64 23]) ∧ Below W.heap.size W w')) := Lib.hid (fun W => offer_c ⟨1, true, 3, 1⟩ 4 0 W u64_1)
  have C3 : Hid (∀ W, Calls Try.prog 9 #[SV ⟨1, true, 3, 1⟩, .int .i64 2] W (fun e w' => e = .returned (.tuple #[FV ⟨1, 2, 1, 3, 1⟩, .bool true]) ∧ Below W.heap.size W w')) := Lib.hid (fun W => out_c ⟨1, true, 3, 1⟩ 2 W)
  have CF : Hid (∀ W, Calls Try.prog 13 #[.int .u64 0, .int .u64 1] W (fun e w' => e = .returned (.bool true) ∧ W = w')) := Lib.hid (fun W => fresh_c 0 1 W)
  go_enter Try.func5, Try.ntmps5
  go_wp2_with fail
  refine (C1.out _).mono ?_
  rintro e w1 ⟨rfl, hb1⟩
  have HX1 := Lib.hid (SnAt.new w1 ⟨1, true, 3, 1⟩)
  have HB1 := Lib.hid (hb1.alloc hb1.size (.cells (SC ⟨1, true, 3, 1⟩) 24))
  obtain ⟨x0, x1, x2, x3⟩ := HX1.out.cell
  clear hb1 C1
  go_wp2_with fail
  generalize w1.alloc (.cells (SC ⟨1, true, 3, 1⟩) 24) = w2 at *
  generalize w1.heap.size = X at *
  refine (C2.out _).mono ?_
  rintro e w3 ⟨rfl, hb3⟩
  have HX3 := Lib.hid ((HX1.out.keep hb3).keep (below_newF w3 (.cells (SC zeroSn) 24)))
  have HB3 := Lib.hid ((HB1.out.trans (hb3.mono HB1.out.size)).alloc (by have := hb3.size; have := HB1.out.size; omega) (.cells (SC zeroSn) 24))
  obtain ⟨x0, x1, x2, x3⟩ := HX3.out.cell
  clear hb3 C2 HX1 HB1
  go_wp2_with fail
  generalize w3.alloc (.cells (SC zeroSn) 24) = w4 at *
  refine (C3.out _).mono ?_
  rintro e w5 ⟨rfl, hb5⟩
  have HX5 := Lib.hid ((HX3.out.keep hb5).keep (below_newF w5 (.cells (FC ⟨1, 2, 1, 3, 1⟩) 35)))
  have HB5 := Lib.hid ((HB3.out.trans (hb5.mono HB3.out.size)).alloc (by have := hb5.size; have := HB3.out.size; omega) (.cells (FC ⟨1, 2, 1, 3, 1⟩) 35))
  have HY5 := Lib.hid (FrAt.new w5 ⟨1, 2, 1, 3, 1⟩)
  obtain ⟨x0, x1, x2, x3⟩ := HX5.out.cell
  obtain ⟨y0, y1, y2, y3, y4⟩ := HY5.out.cell
  clear hb5 C3 HX3 HB3
  have hgd := guard_frame
  have hef := fun W => eq_frame ⟨1, 2, 1, 3, 1⟩ ⟨1, 2, 1, 3, 1⟩ W
  simp only [decide_true] at hef
  go_wp2_with fail
  generalize w5.alloc (.cells (FC ⟨1, 2, 1, 3, 1⟩) 35) = w6 at *
  generalize w5.heap.size = Y at *
  refine (CF.out _).mono ?_
  rintro e w7 ⟨rfl, rfl⟩
  go_wp2
  go_ret
  exact ⟨rfl, HB5.out⟩
end Go.Proofs.Ytpiofjhcagdklaa
