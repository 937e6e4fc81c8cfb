/- The example of chapter 16. -/
import Derived.Test.YtjbhmeeebacnpaaPkDo
import Derived.Test.YtjbhmeeebacnpaaPkClash
import Derived.Test.YtjbhmeeebacnpaaGrSame
namespace Go.Proofs.Ytjbhmeeebacnpaa
open Go Go.RowKit Fl

theorem lit_holdsB (w : World) (cs : Array Value) (e : TypeId) (l : List Value) (hl : cs.toList = l) : Holds (w.alloc (.cells cs e)) (some ⟨w.heap.size, 0, none⟩) l := by
  subst hl
  refine .inr ⟨w.heap.size, 0, rfl, by simp, fun j hj => ?_⟩
  rw [Nat.zero_add, cell_of_row _ _ _ _ _ _ (heap_alloc_new w _)]
  simp
abbrev kB : List BodD := [⟨0, 1, false, false⟩, ⟨-1, -1, false, false⟩]
abbrev kC : List BodD := [⟨0, 1, false, false⟩, ⟨1, -1, false, false⟩]
theorem k16 : doE false kB 1 0 1 = 0 ∧ doL false kB 1 0 1 = kC := by decide
theorem k16c : clashV kC = .tuple #[.int .i64 0, .int .i64 1, .bool true] := rfl
theorem k16f : fpB ⟨0, 1, false, false⟩ = [0, 1] := by decide
set_option maxRecDepth 100000 in
set_option maxHeartbeats 2000000 in
theorem known16_c (w : World) : Calls Try.prog 7 #[] w fun e w' => e = .returned (.bool true) ∧ Below w.heap.size w w' := by
  have HB0 := Lib.hid (below_newB w (.cells #[.int .i64 0, .int .i64 1, .bool false, .bool false, .int .i64 (-1), .int .i64 (-1), .bool false, .bool false] 40))
  have HH0 : Holds (w.alloc (.cells #[.int .i64 0, .int .i64 1, .bool false, .bool false, .int .i64 (-1), .int .i64 (-1), .bool false, .bool false] 40)) (some ⟨w.heap.size, 0, none⟩) (bodS.cs kB) := lit_holdsB w _ _ _ rfl
  have hC := devPut_c (some ⟨w.heap.size, 0, none⟩) 2 2 kB rfl 1 1 false _ HH0 (by decide)
  rw [k16.1, k16.2] at hC
  have HC := Lib.hid hC
  have HK : Hid (∀ A c W, Holds W A (bodS.cs kC) → Calls Try.prog 16 #[.slice A 2 c] W fun e w' => e = .returned (.tuple #[.int .i64 0, .int .i64 1, .bool true]) ∧ Below W.heap.size W w') := Lib.hid (fun A c W h => by
    have := devClash_c A c 2 kC rfl W h (by decide) (fun b hb => by
      simp only [List.mem_cons, List.not_mem_nil, or_false] at hb
      rcases hb with rfl | rfl <;> exact ⟨by decide, by decide⟩)
    rwa [k16c] at this)
  have HF := Lib.hid (fun W => devFp_c ⟨0, 1, false, false⟩ W)
  rw [k16f] at HF
  clear hC HH0
  go_enter Try.func7, Try.ntmps7
  go_wp2_with fail
  generalize w.alloc (.cells #[.int .i64 0, .int .i64 1, .bool false, .bool false, .int .i64 (-1), .int .i64 (-1), .bool false, .bool false] 40) = w1 at *
  refine HC.out.mono ?_
  rintro e w2 ⟨v, rfl, ho2, hb2⟩
  obtain ⟨A2, c2, rfl, hc2⟩ := ho2.form
  have HH2 : Hid (Holds w2 A2 (bodS.cs kC)) := Lib.hid (ownsRow_holds ho2)
  have HB2 := Lib.hid (HB0.out.trans (hb2.mono HB0.out.size))
  clear ho2 hb2 HC HB0
  go_wp2_with fail
  refine (HK.out A2 c2 w2 HH2.out).mono ?_
  rintro e w3 ⟨rfl, hb3⟩
  have HH3 := Lib.hid (HH2.out.keep hb3)
  have HB3 := Lib.hid (HB2.out.trans (hb3.mono HB2.out.size))
  obtain ⟨b, o, rfl, _, a1⟩ := StK.holds_at HH3.out (i := 0) (by decide)
  obtain ⟨x0, x1, x2, x3⟩ := bod_cells a1
  simp only [Nat.zero_mul, Nat.add_zero, List.getElem_cons_zero] at x0 x1 x2 x3
  clear hb3 HK HH2 HB2 a1
  go_wp2_with fail
  refine (HF.out w3).mono ?_
  rintro e w4 ⟨u, rfl, ho4, hb4⟩
  obtain ⟨A4, c4, rfl⟩ := own_sliceC ho4
  have HB4 := Lib.hid (HB3.out.trans (hb4.mono HB3.out.size))
  have HS : Hid (Calls Try.prog 18 #[.slice A4 2 c4, .slice (some ⟨w4.heap.size, 0, none⟩) 2 2] (w4.alloc (.cells #[.int .i64 0, .int .i64 1] 3)) fun e w' => e = .returned (.bool true) ∧ ∃ n, w' = (w4.alloc (.cells #[.int .i64 0, .int .i64 1] 3)).drewN n) := Lib.hid (sameIntsE_c A4 (some ⟨w4.heap.size, 0, none⟩) c4 2 [0, 1] _ ((ownsRow_holds ho4).keep (below_newB _ _)) (lit_holdsB _ _ _ _ rfl) (by decide))
  have HB5 := Lib.hid (HB4.out.alloc HB4.out.size (.cells #[.int .i64 0, .int .i64 1] 3))
  clear ho4 hb4 HF HB3 HB4 HH3
  go_wp2_with fail
  refine HS.out.mono ?_
  rintro e w5 ⟨rfl, n5, rfl⟩
  clear HS
  go_wp2
  go_ret
  exact ⟨by first | rfl | simp, below_drewN HB5.out _⟩
end Go.Proofs.Ytjbhmeeebacnpaa
