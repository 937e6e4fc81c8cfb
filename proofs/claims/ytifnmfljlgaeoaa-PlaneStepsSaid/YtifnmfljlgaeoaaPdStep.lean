/- Contract of plane's Step. -/
import Derived.Test.YtifnmfljlgaeoaaPdAt
import Derived.Deep.RegionHeld3
import Derived.Deep.RegionLaw
namespace Go.Proofs.Ytifnmfljlgaeoaa
open Go Go.RowKit Fl

theorem row2 (w : World) (a b : BlockD) (oa ob : Obj) : Holds (((w.alloc oa).alloc ob).alloc (.cells #[Sv a.name, Iv a.x, Iv a.y, Sv b.name, Iv b.x, Iv b.y] 23)) (some ⟨w.heap.size + 1 + 1, 0, none⟩) (blockCells [a, b]) := by
  have h : Holds (((w.alloc oa).alloc ob).alloc (.cells #[Sv a.name, Iv a.x, Iv a.y, Sv b.name, Iv b.x, Iv b.y] 23)) (some ⟨((w.alloc oa).alloc ob).heap.size, 0, none⟩) (blockCells [a, b]) := holds_blkP (heap_alloc_new _ _) rfl
  rwa [show ((w.alloc oa).alloc ob).heap.size = w.heap.size + 1 + 1 by simp] at h
theorem valid2 (a b : BlockD) (c : Nat) (z : Bool) (h : twoB a b = z) (A : Option Addr) (w : World) (hh : Holds w A (blockCells [a, b])) : Calls Try.prog 36 #[.slice A 2 c] w fun e w' => e = .returned (.bool z) ∧ Below w.heap.size w w' := by
  have h1 := devValid_c A c [a, b] w hh (by simp)
  have h2 : allB [a, b] = z := by unfold allB; unfold twoB at h; simpa using h
  rw [h2] at h1
  exact h1
/-- What the loads of two blocks find. -/
def TwoAt (W : World) (G H : Nat) (a b : BlockD) : Prop := W.cell? ⟨G, 0, none⟩ = some (Sv a.name) ∧ W.cell? ⟨G, 1, none⟩ = some (.int .i64 a.x) ∧ W.cell? ⟨G, 2, none⟩ = some (.int .i64 a.y) ∧ W.cell? ⟨H, 0, none⟩ = some (Sv b.name) ∧ W.cell? ⟨H, 1, none⟩ = some (.int .i64 b.x) ∧ W.cell? ⟨H, 2, none⟩ = some (.int .i64 b.y)
theorem two_keep {w1 : World} {G H : Nat} {a b : BlockD} (ha : BlkAt w1 G a) (hb : BlkAt w1 H b) : ∀ W, Below w1.heap.size w1 W → TwoAt W G H a b := fun W h => by
  obtain ⟨a0, a1, a2⟩ := (ha.keep h).cell
  obtain ⟨b0, b1, b2⟩ := (hb.keep h).cell
  exact ⟨a0, a1, a2, b0, b1, b2⟩
theorem at_from {b : BlockD} (h : okB b = true) (w1 : World) (W : World) (hW : Below w1.heap.size w1 W) : Calls Try.prog 23 #[BV b] W fun e w' => ∃ re im, e = .returned (.complex .f64 re im) ∧ IsF re b.x ∧ IsF im b.y ∧ Below w1.heap.size w1 w' :=
  (at_ok h W).mono (fun e w' k => by
    obtain ⟨re, im, h1, h2, h3, h4⟩ := k
    exact ⟨re, im, h1, h2, h3, hW.trans (h4.mono hW.size)⟩)
theorem twoB_true {a b : BlockD} (h : twoB a b = true) : okB a = true ∧ okB b = true := by
  unfold twoB at h
  simpa using h
set_option maxRecDepth 100000 in
set_option maxHeartbeats 4000000 in
theorem stepOk_c {a b : BlockD} (h : twoB a b = true) (w : World) : Calls Try.prog 20 #[BV a, BV b] w fun e w' => ∃ re im, e = .returned (.complex .f64 re im) ∧ IsF re (b.x - a.x) ∧ IsF im (b.y - a.y) ∧ Below w.heap.size w w' := by
  obtain ⟨ha, hb, hw⟩ := two_new w a b
  have HA := Lib.hid ha
  have HB := Lib.hid hb
  have HW := Lib.hid hw
  obtain ⟨a0, a1, a2⟩ := ha.cell
  obtain ⟨b0, b1, b2⟩ := hb.cell
  clear ha hb hw
  have HR := Lib.hid (row2 w a b (.cells #[Sv a.name, Iv a.x, Iv a.y] 23) (.cells #[Sv b.name, Iv b.x, Iv b.y] 23))
  have HW2 := Lib.hid (below_newP ((w.alloc (.cells #[Sv a.name, Iv a.x, Iv a.y] 23)).alloc (.cells #[Sv b.name, Iv b.x, Iv b.y] 23)) (.cells #[Sv a.name, Iv a.x, Iv a.y, Sv b.name, Iv b.x, Iv b.y] 23))
  have CV := Lib.hid (valid2 a b 2 true h)
  obtain ⟨h1, h2⟩ := twoB_true h
  have HF : Hid (∀ {r1 i1 r2 i2 : Nat}, IsF r1 b.x → IsF i1 b.y → IsF r2 a.x → IsF i2 a.y → ∃ re im, cSumBits .sub .f64 r1 i1 r2 i2 = some (re, im) ∧ IsF re (b.x - a.x) ∧ IsF im (b.y - a.y)) := Lib.hid (fun k1 k2 k3 k4 => by
    have := okB_iff.1 h1
    have := okB_iff.1 h2
    exact sub_cpx k1 k2 k3 k4 (by omega) (by omega))
  have CA := Lib.hid (at_from h1)
  have CB := Lib.hid (at_from h2)
  clear h h1 h2
  go_enter Try.func20, Try.ntmps20
  go_wp2_with fail
  refine (CV.out _ _ HR.out).mono ?_
  rintro e w1 ⟨rfl, hb2⟩
  have HW1 := Lib.hid (HW.out.trans ((HW2.out.trans (hb2.mono HW2.out.size)).mono HW.out.size))
  have HK := Lib.hid (two_keep ((HA.out.keep HW2.out).keep hb2) ((HB.out.keep HW2.out).keep hb2))
  clear hb2 a0 a1 a2 b0 b1 b2 CV HR HW2 HA HB HW
  have CA1 := Lib.hid (CA.out w1)
  have CB1 := Lib.hid (CB.out w1)
  obtain ⟨a0, a1, a2, b0, b1, b2⟩ := HK.out w1 (Below.refl _ _)
  clear CA CB
  go_wp2_with fail
  go_region_law (go_simp; go_at_call 23; first | (with_reducible refine (CB1.out _ (by repeat (first | assumption | (with_reducible exact Below.refl _ _) | (with_reducible refine Below.drew ?_)))).mono ?_; rintro e w2 ⟨r1, i1, rfl, k1, k2, hb2⟩; have hk2 := HK.out w2 hb2; unfold TwoAt at hk2; obtain ⟨x0, x1, x2, y0, y1, y2⟩ := hk2; first | (obtain ⟨re, im, hm, q1, q2⟩ := HF.out k1 k2 m1 m2; have hop := fun t W => run_complex_sum (P := Try.prog) W .sub (Or.inr rfl) t .f64 r1 i1 r2 i2 re im hm) | skip) | (with_reducible refine (CA1.out _ (by repeat (first | assumption | (with_reducible exact Below.refl _ _) | (with_reducible refine Below.drew ?_)))).mono ?_; rintro e w3 ⟨r2, i2, rfl, m1, m2, hb3⟩; have hk3 := HK.out w3 hb3; unfold TwoAt at hk3; obtain ⟨x0, x1, x2, y0, y1, y2⟩ := hk3; first | (obtain ⟨re, im, hm, q1, q2⟩ := HF.out k1 k2 m1 m2; have hop := fun t W => run_complex_sum (P := Try.prog) W .sub (Or.inr rfl) t .f64 r1 i1 r2 i2 re im hm) | skip))
  all_goals
    go_wp2
    go_ret
    refine ⟨_, _, rfl, q1, q2, ?_⟩
    refine HW1.out.trans (Below.mono ?_ HW1.out.size)
    repeat (first | assumption | (with_reducible exact Below.refl _ _) | (with_reducible refine Below.drew ?_))
set_option maxRecDepth 100000 in
set_option maxHeartbeats 4000000 in
theorem stepBad_c {a b : BlockD} (h : twoB a b = false) (w : World) : Calls Try.prog 20 #[BV a, BV b] w fun e w' => e = .returned (.complex .f64 0 0) ∧ Below w.heap.size w w' := by
  obtain ⟨ha, hb, hw⟩ := two_new w a b
  have HW := Lib.hid hw
  obtain ⟨a0, a1, a2⟩ := ha.cell
  obtain ⟨b0, b1, b2⟩ := hb.cell
  clear ha hb hw
  have HR := Lib.hid (row2 w a b (.cells #[Sv a.name, Iv a.x, Iv a.y] 23) (.cells #[Sv b.name, Iv b.x, Iv b.y] 23))
  have HW2 := Lib.hid (below_newP ((w.alloc (.cells #[Sv a.name, Iv a.x, Iv a.y] 23)).alloc (.cells #[Sv b.name, Iv b.x, Iv b.y] 23)) (.cells #[Sv a.name, Iv a.x, Iv a.y, Sv b.name, Iv b.x, Iv b.y] 23))
  have CV := Lib.hid (valid2 a b 2 false h)
  clear h
  go_enter Try.func20, Try.ntmps20
  go_wp2_with fail
  refine (CV.out _ _ HR.out).mono ?_
  rintro e w1 ⟨rfl, hb2⟩
  have HW1 := Lib.hid (HW.out.trans ((HW2.out.trans (hb2.mono HW2.out.size)).mono HW.out.size))
  clear hb2 a0 a1 a2 b0 b1 b2 CV HR HW2 HW
  go_wp2
  go_ret
  exact ⟨rfl, HW1.out⟩
theorem devStep_k (a b : BlockD) (w : World) : Calls Try.prog 20 #[BV a, BV b] w fun e w' => ∃ re im, e = .returned (.complex .f64 re im) ∧ IsF re (if twoB a b then b.x - a.x else 0) ∧ IsF im (if twoB a b then b.y - a.y else 0) ∧ Below w.heap.size w w' := by
  rcases h : twoB a b with _ | _
  · exact (stepBad_c h w).mono (fun e w' k => by
      obtain ⟨rfl, k⟩ := k
      exact ⟨0, 0, rfl, zero_isF, zero_isF, k⟩)
  · exact stepOk_c h w
theorem devStep : DevStep := fun a b w => (devStep_k a b w).mono (fun e w' h => by
  obtain ⟨re, im, rfl, h1, h2, h3⟩ := h
  exact ⟨_, rfl, ⟨re, im, rfl, h1, h2⟩, h3⟩)
end Go.Proofs.Ytifnmfljlgaeoaa
