/- Contract of plane's Turn. -/
import Derived.Test.YtifnmfljlgaeoaaPdStep
namespace Go.Proofs.Ytifnmfljlgaeoaa
open Go Go.RowKit Fl

theorem row3 (w : World) (a b c : BlockD) (oa ob oc : Obj) : Holds ((((w.alloc oa).alloc ob).alloc oc).alloc (.cells #[Sv a.name, Iv a.x, Iv a.y, Sv b.name, Iv b.x, Iv b.y, Sv c.name, Iv c.x, Iv c.y] 23)) (some ⟨w.heap.size + 1 + 1 + 1, 0, none⟩) (blockCells [a, b, c]) := by
  have h : Holds ((((w.alloc oa).alloc ob).alloc oc).alloc (.cells #[Sv a.name, Iv a.x, Iv a.y, Sv b.name, Iv b.x, Iv b.y, Sv c.name, Iv c.x, Iv c.y] 23)) (some ⟨(((w.alloc oa).alloc ob).alloc oc).heap.size, 0, none⟩) (blockCells [a, b, c]) := holds_blkP (heap_alloc_new _ _) rfl
  rwa [show (((w.alloc oa).alloc ob).alloc oc).heap.size = w.heap.size + 1 + 1 + 1 by simp] at h
theorem valid3 (a b c : BlockD) (k : Nat) (z : Bool) (h : threeB a b c = z) (A : Option Addr) (w : World) (hh : Holds w A (blockCells [a, b, c])) : Calls Try.prog 36 #[.slice A 3 k] w fun e w' => e = .returned (.bool z) ∧ Below w.heap.size w w' := by
  have h1 := devValid_c A k [a, b, c] w hh (by simp)
  have h2 : allB [a, b, c] = z := by unfold allB; unfold threeB at h; simpa [Bool.and_assoc] using h
  rw [h2] at h1
  exact h1
def ThreeAt (W : World) (G H K : Nat) (a b c : BlockD) : Prop := W.cell? ⟨G, 0, none⟩ = some (Sv a.name) ∧ W.cell? ⟨G, 1, none⟩ = some (.int .i64 a.x) ∧ W.cell? ⟨G, 2, none⟩ = some (.int .i64 a.y) ∧ W.cell? ⟨H, 0, none⟩ = some (Sv b.name) ∧ W.cell? ⟨H, 1, none⟩ = some (.int .i64 b.x) ∧ W.cell? ⟨H, 2, none⟩ = some (.int .i64 b.y) ∧ W.cell? ⟨K, 0, none⟩ = some (Sv c.name) ∧ W.cell? ⟨K, 1, none⟩ = some (.int .i64 c.x) ∧ W.cell? ⟨K, 2, none⟩ = some (.int .i64 c.y)
theorem three_keep {w1 : World} {G H K : Nat} {a b c : BlockD} (ha : BlkAt w1 G a) (hb : BlkAt w1 H b) (hc : BlkAt w1 K c) : ∀ W, Below w1.heap.size w1 W → ThreeAt W G H K a b c := fun W h => by
  obtain ⟨a0, a1, a2⟩ := (ha.keep h).cell
  obtain ⟨b0, b1, b2⟩ := (hb.keep h).cell
  obtain ⟨c0, c1, c2⟩ := (hc.keep h).cell
  exact ⟨a0, a1, a2, b0, b1, b2, c0, c1, c2⟩
theorem step_from {a b : BlockD} (ha : okB a = true) (hb : okB b = true) (w1 : World) (W : World) (hW : Below w1.heap.size w1 W) : Calls Try.prog 20 #[BV a, BV b] W fun e w' => ∃ re im, e = .returned (.complex .f64 re im) ∧ IsF re (b.x - a.x) ∧ IsF im (b.y - a.y) ∧ Below w1.heap.size w1 w' :=
  (stepOk_c (a := a) (b := b) (by unfold twoB; rw [ha, hb]; rfl) W).mono (fun e w' k => by
    obtain ⟨re, im, h1, h2, h3, h4⟩ := k
    exact ⟨re, im, h1, h2, h3, hW.trans (h4.mono hW.size)⟩)
/-- The turn from two steps. -/
theorem between_z {a b c : BlockD} (ha : okB a = true) (hb : okB b = true) (hc : okB c = true) {r1 i1 r2 i2 : Nat} (h1 : IsF r1 (b.x - a.x)) (h2 : IsF i1 (b.y - a.y)) (h3 : IsF r2 (c.x - b.x)) (h4 : IsF i2 (c.y - b.y)) (W : World) :
    Calls Try.prog 33 #[.complex .f64 r1 i1, .complex .f64 r2 i2] W fun e w' => e = .returned (.int .i64 (turnZ a b c)) ∧ w' = W := by
  have ka := okB_iff.1 ha
  have kb := okB_iff.1 hb
  have kc := okB_iff.1 hc
  exact between_c h1 h2 h3 h4 (by omega) (by omega) (by omega) (by omega) W
theorem threeB_true {a b c : BlockD} (h : threeB a b c = true) : okB a = true ∧ okB b = true ∧ okB c = true := by
  unfold threeB at h
  simpa [Bool.and_assoc, and_assoc] using h
set_option maxRecDepth 100000 in
set_option maxHeartbeats 4000000 in
theorem devTurnOk_c {a b c : BlockD} (h : threeB a b c = true) (w : World) : Calls Try.prog 22 #[BV a, BV b, BV c] w fun e w' => e = .returned (.tuple #[.int .i64 (turnZ a b c), .int .i64 0]) ∧ Below w.heap.size w w' := by
  obtain ⟨ha, hb, hc, hw⟩ := three_new w a b c
  have HA := Lib.hid ha
  have HB := Lib.hid hb
  have HC := Lib.hid hc
  have HW := Lib.hid hw
  obtain ⟨a0, a1, a2⟩ := ha.cell
  obtain ⟨b0, b1, b2⟩ := hb.cell
  obtain ⟨c0, c1, c2⟩ := hc.cell
  clear ha hb hc hw
  have HR := Lib.hid (row3 w a b c (.cells #[Sv a.name, Iv a.x, Iv a.y] 23) (.cells #[Sv b.name, Iv b.x, Iv b.y] 23) (.cells #[Sv c.name, Iv c.x, Iv c.y] 23))
  have HW2 := Lib.hid (below_newP (((w.alloc (.cells #[Sv a.name, Iv a.x, Iv a.y] 23)).alloc (.cells #[Sv b.name, Iv b.x, Iv b.y] 23)).alloc (.cells #[Sv c.name, Iv c.x, Iv c.y] 23)) (.cells #[Sv a.name, Iv a.x, Iv a.y, Sv b.name, Iv b.x, Iv b.y, Sv c.name, Iv c.x, Iv c.y] 23))
  have CV := Lib.hid (valid3 a b c 3 true h)
  obtain ⟨h1, h2, h3⟩ := threeB_true h
  have HF : Hid (∀ {r1 i1 r2 i2 : Nat}, IsF r1 (b.x - a.x) → IsF i1 (b.y - a.y) → IsF r2 (c.x - b.x) → IsF i2 (c.y - b.y) → ∀ W, Calls Try.prog 33 #[.complex .f64 r1 i1, .complex .f64 r2 i2] W fun e w' => e = .returned (.int .i64 (turnZ a b c)) ∧ w' = W) := Lib.hid (fun k1 k2 k3 k4 W => between_z h1 h2 h3 k1 k2 k3 k4 W)
  have CA := Lib.hid (step_from h1 h2)
  have CB := Lib.hid (step_from h2 h3)
  clear h h1 h2 h3
  generalize turnZ a b c = tz at *
  go_enter Try.func22, Try.ntmps22
  go_wp2_with fail
  refine (CV.out _ _ HR.out).mono ?_
  rintro e w1 ⟨rfl, hb2⟩
  have HW1 := Lib.hid (HW.out.trans ((HW2.out.trans (hb2.mono HW2.out.size)).mono HW.out.size))
  have HK := Lib.hid (three_keep ((HA.out.keep HW2.out).keep hb2) ((HB.out.keep HW2.out).keep hb2) ((HC.out.keep HW2.out).keep hb2))
  clear hb2 a0 a1 a2 b0 b1 b2 c0 c1 c2 CV HR HW2 HA HB HC HW
  have CA1 := Lib.hid (CA.out w1)
  have CB1 := Lib.hid (CB.out w1)
  obtain ⟨a0, a1, a2, b0, b1, b2, c0, c1, c2⟩ := HK.out w1 (Below.refl _ _)
  clear CA CB
  go_wp2_with fail
  go_region_law (go_simp; first | (go_at_call 33; have CT := HF.out k1 k2 m1 m2; with_reducible refine (CT _).mono ?_; rintro e w4 ⟨rfl, rfl⟩) | (go_at_call 20; first | (with_reducible refine (CA1.out _ (by repeat (first | assumption | (with_reducible exact Below.refl _ _) | (with_reducible refine Below.drew ?_)))).mono ?_; rintro e w2 ⟨r1, i1, rfl, k1, k2, hb2⟩; have hk2 := HK.out w2 hb2; unfold ThreeAt at hk2; obtain ⟨x0, x1, x2, y0, y1, y2, z0, z1, z2⟩ := hk2) | (with_reducible refine (CB1.out _ (by repeat (first | assumption | (with_reducible exact Below.refl _ _) | (with_reducible refine Below.drew ?_)))).mono ?_; rintro e w3 ⟨r2, i2, rfl, m1, m2, hb3⟩; have hk3 := HK.out w3 hb3; unfold ThreeAt at hk3; obtain ⟨x0, x1, x2, y0, y1, y2, z0, z1, z2⟩ := hk3)))
  all_goals
    go_wp2
    go_ret2
    refine ⟨rfl, ?_⟩
    refine HW1.out.trans (Below.mono ?_ HW1.out.size)
    repeat (first | assumption | (with_reducible exact Below.refl _ _) | (with_reducible refine Below.drew ?_))
set_option maxRecDepth 100000 in
set_option maxHeartbeats 4000000 in
theorem devTurnBad_c {a b c : BlockD} (h : threeB a b c = false) (w : World) : Calls Try.prog 22 #[BV a, BV b, BV c] w fun e w' => e = .returned (.tuple #[.int .i64 0, .int .i64 19]) ∧ Below w.heap.size w w' := by
  obtain ⟨ha, hb, hc, hw⟩ := three_new w a b c
  have HW := Lib.hid hw
  obtain ⟨a0, a1, a2⟩ := ha.cell
  obtain ⟨b0, b1, b2⟩ := hb.cell
  obtain ⟨c0, c1, c2⟩ := hc.cell
  clear ha hb hc hw
  have HR := Lib.hid (row3 w a b c (.cells #[Sv a.name, Iv a.x, Iv a.y] 23) (.cells #[Sv b.name, Iv b.x, Iv b.y] 23) (.cells #[Sv c.name, Iv c.x, Iv c.y] 23))
  have HW2 := Lib.hid (below_newP (((w.alloc (.cells #[Sv a.name, Iv a.x, Iv a.y] 23)).alloc (.cells #[Sv b.name, Iv b.x, Iv b.y] 23)).alloc (.cells #[Sv c.name, Iv c.x, Iv c.y] 23)) (.cells #[Sv a.name, Iv a.x, Iv a.y, Sv b.name, Iv b.x, Iv b.y, Sv c.name, Iv c.x, Iv c.y] 23))
  have CV := Lib.hid (valid3 a b c 3 false h)
  clear h
  go_enter Try.func22, Try.ntmps22
  go_wp2_with fail
  refine (CV.out _ _ HR.out).mono ?_
  rintro e w1 ⟨rfl, hb2⟩
  have HW1 := Lib.hid (HW.out.trans ((HW2.out.trans (hb2.mono HW2.out.size)).mono HW.out.size))
  clear hb2 a0 a1 a2 b0 b1 b2 c0 c1 c2 CV HR HW2 HW
  go_wp2
  go_ret2
  exact ⟨rfl, HW1.out⟩
theorem devTurn : DevTurn := fun a b c w => by
  rcases h : threeB a b c with _ | _
  · have e1 : turnR a b c = 0 := by unfold turnR; rw [h]; rfl
    have e2 : turnE a b c = 19 := by unfold turnE; rw [h]; rfl
    rw [e1, e2]
    exact devTurnBad_c h w
  · have e1 : turnR a b c = turnZ a b c := by unfold turnR; rw [h]; rfl
    have e2 : turnE a b c = 0 := by unfold turnE; rw [h]; rfl
    rw [e1, e2]
    exact devTurnOk_c h w
end Go.Proofs.Ytifnmfljlgaeoaa
