/- Blocks as values, and contracts of the reference's functions of layer 8. -/
import Derived.Test.YtifnmfljlgaeoaaPlArea
import Derived.Test.YtifnmfljlgaeoaaGrMade
import Derived.Deep.QuietTactic
import Derived.BigQuiet
namespace Go.Proofs.Ytifnmfljlgaeoaa
open Go Go.RowKit Fl

abbrev BV (b : BlockD) : Value := .agg #[Sv b.name, Iv b.x, Iv b.y]
/-- A block in memory. -/
def BlkAt (w : World) (G : Nat) (b : BlockD) : Prop := w.heap[G]? = some (.cells #[Sv b.name, Iv b.x, Iv b.y] 23 (0, 0))
theorem BlkAt.cell {w : World} {G : Nat} {b : BlockD} (h : BlkAt w G b) : w.cell? ⟨G, 0, none⟩ = some (Sv b.name) ∧ w.cell? ⟨G, 1, none⟩ = some (.int .i64 b.x) ∧ w.cell? ⟨G, 2, none⟩ = some (.int .i64 b.y) :=
  ⟨by rw [cell_of_row w G 0 _ _ _ h]; rfl, by rw [cell_of_row w G 1 _ _ _ h]; rfl, by rw [cell_of_row w G 2 _ _ _ h]; rfl⟩
theorem BlkAt.frozen {w : World} {G : Nat} {b : BlockD} (h : BlkAt w G b) (i : Nat) : w.frozen? ⟨G, i, none⟩ = false := by
  unfold BlkAt at h
  simp [World.frozen?, h]
theorem BlkAt.lt {w : World} {G : Nat} {b : BlockD} (h : BlkAt w G b) : G < w.heap.size := block_lt h
theorem BlkAt.keep {w w' : World} {G : Nat} {b : BlockD} (h : BlkAt w G b) (hb : Below w.heap.size w w') : BlkAt w' G b := (hb.block G h.lt).trans h
theorem box_new (w : World) (b : BlockD) : BlkAt (w.alloc (.cells #[Sv b.name, Iv b.x, Iv b.y] 23)) w.heap.size b := heap_alloc_new w _
theorem below_newP (w : World) (ob : Obj) : Below w.heap.size w (w.alloc ob) := (Below.refl _ _).alloc (Nat.le_refl _) _
set_option maxRecDepth 100000 in
set_option maxHeartbeats 4000000 in
theorem valid_c (b : BlockD) (w : World) : Calls Try.prog 38 #[BV b] w fun e w' => e = .returned (.bool (okB b)) ∧ Below w.heap.size w w' := by
  have HB := Lib.hid (box_new w b)
  have HW := Lib.hid (below_newP w (.cells #[Sv b.name, Iv b.x, Iv b.y] 23))
  obtain ⟨_, hx, hy⟩ := HB.out.cell
  have hcase : (decide (-9999 ≤ b.x) = false ∧ okB b = false) ∨ (decide (-9999 ≤ b.x) = true ∧ decide (b.x ≤ 9999) = false ∧ okB b = false) ∨ (decide (-9999 ≤ b.x) = true ∧ decide (b.x ≤ 9999) = true ∧ decide (-9999 ≤ b.y) = false ∧ okB b = false) ∨ (decide (-9999 ≤ b.x) = true ∧ decide (b.x ≤ 9999) = true ∧ decide (-9999 ≤ b.y) = true ∧ okB b = decide (b.y ≤ 9999)) := by
    unfold okB
    simp only [decide_eq_true_eq, decide_eq_false_iff_not, decide_eq_decide]
    omega
  rcases hcase with ⟨h1, h5⟩ | ⟨h1, h2, h5⟩ | ⟨h1, h2, h3, h5⟩ | ⟨h1, h2, h3, h5⟩
  all_goals
    rw [h5]
    clear h5
    go_enter Try.func38, Try.ntmps38
    go_wp2
    go_ret
    exact ⟨rfl, HW.out⟩
theorem valid_is (b : BlockD) (z : Bool) (h : okB b = z) (w : World) : Calls Try.prog 38 #[BV b] w fun e w' => e = .returned (.bool z) ∧ Below w.heap.size w w' := h ▸ valid_c b w
/-- Two blocks in two new cells. -/
theorem two_new (w : World) (a b : BlockD) : BlkAt ((w.alloc (.cells #[Sv a.name, Iv a.x, Iv a.y] 23)).alloc (.cells #[Sv b.name, Iv b.x, Iv b.y] 23)) w.heap.size a ∧ BlkAt ((w.alloc (.cells #[Sv a.name, Iv a.x, Iv a.y] 23)).alloc (.cells #[Sv b.name, Iv b.x, Iv b.y] 23)) (w.heap.size + 1) b ∧ Below w.heap.size w ((w.alloc (.cells #[Sv a.name, Iv a.x, Iv a.y] 23)).alloc (.cells #[Sv b.name, Iv b.x, Iv b.y] 23)) := by
  refine ⟨(box_new w a).keep (below_newP _ _), ?_, (below_newP w _).trans ((below_newP _ _).mono (by simp))⟩
  have h := box_new (w.alloc (.cells #[Sv a.name, Iv a.x, Iv a.y] 23)) b
  rwa [show (w.alloc (.cells #[Sv a.name, Iv a.x, Iv a.y] 23)).heap.size = w.heap.size + 1 by simp] at h
set_option maxRecDepth 100000 in
set_option maxHeartbeats 4000000 in
theorem refAt_c (b : BlockD) (w : World) : Calls Try.prog 25 #[BV b] w fun e w' => e = .returned (.tuple #[.int .i64 (if okB b then b.x else 0), .int .i64 (if okB b then b.y else 0)]) ∧ Below w.heap.size w w' := by
  have hb := box_new w b
  have HB := Lib.hid hb
  have HW := Lib.hid (below_newP w (.cells #[Sv b.name, Iv b.x, Iv b.y] 23))
  obtain ⟨h0, hx, hy⟩ := hb.cell
  clear hb
  rcases hok : okB b with _ | _
  · have CV := Lib.hid (valid_is b false hok)
    go_enter Try.func25, Try.ntmps25
    go_wp2_with fail
    refine (CV.out _).mono ?_
    rintro e w2 ⟨rfl, hb2⟩
    have HB2 := Lib.hid (HW.out.trans (hb2.mono HW.out.size))
    clear hb2 h0 hx hy CV
    go_wp2
    go_ret2
    exact ⟨rfl, HB2.out⟩
  · have CV := Lib.hid (valid_is b true hok)
    go_enter Try.func25, Try.ntmps25
    go_wp2_with fail
    refine (CV.out _).mono ?_
    rintro e w2 ⟨rfl, hb2⟩
    have HB2 := Lib.hid (HW.out.trans (hb2.mono HW.out.size))
    obtain ⟨_, hx2, hy2⟩ := (HB.out.keep hb2).cell
    clear hb2 h0 hx hy CV
    go_wp2_with fail
    go_quiet (fail)
    go_wp2
    go_ret2
    exact ⟨rfl, below_drewN HB2.out _⟩
def twoB (a b : BlockD) : Bool := okB a && okB b
def threeB (a b c : BlockD) : Bool := okB a && okB b && okB c
theorem bool2 (p q : Bool) : p = false ∨ (p = true ∧ q = false) ∨ (p = true ∧ q = true) := by cases p <;> cases q <;> simp
theorem bool3 (p q r : Bool) : p = false ∨ (p = true ∧ q = false) ∨ (p = true ∧ q = true ∧ r = false) ∨ (p = true ∧ q = true ∧ r = true) := by cases p <;> cases q <;> cases r <;> simp
theorem wrap_in {z : Int} (h : -1000000000000 ≤ z ∧ z ≤ 1000000000000) : IntKind.i64.wrap z = z := IntWalk.i64_in _ (by omega)
set_option maxRecDepth 100000 in
set_option maxHeartbeats 4000000 in
theorem refStep_c (a b : BlockD) (w : World) : Calls Try.prog 26 #[BV a, BV b] w fun e w' => e = .returned (.tuple #[.int .i64 (if twoB a b then b.x - a.x else 0), .int .i64 (if twoB a b then b.y - a.y else 0)]) ∧ Below w.heap.size w w' := by
  obtain ⟨ha, hb, hw⟩ := two_new w a b
  have HA := Lib.hid ha
  have HB := Lib.hid hb
  have HW := Lib.hid hw
  obtain ⟨a0, a1, a2⟩ := ha.cell
  obtain ⟨b0, b1, b2⟩ := hb.cell
  clear ha hb hw
  rcases bool2 (okB a) (okB b) with h1 | ⟨h1, h2⟩ | ⟨h1, h2⟩
  · have e0 : twoB a b = false := by unfold twoB; rw [h1]; rfl
    have CA := Lib.hid (valid_is a false h1)
    rw [e0]
    clear e0
    go_enter Try.func26, Try.ntmps26
    go_wp2_with fail
    refine (CA.out _).mono ?_
    rintro e w2 ⟨rfl, hb2⟩
    have HB2 := Lib.hid (HW.out.trans (hb2.mono HW.out.size))
    clear hb2 a0 a1 a2 b0 b1 b2
    go_wp2
    go_ret2
    exact ⟨rfl, HB2.out⟩
  · have e0 : twoB a b = false := by unfold twoB; rw [h1, h2]; rfl
    have CA := Lib.hid (valid_is a true h1)
    have CB := Lib.hid (valid_is b false h2)
    rw [e0]
    clear e0
    go_enter Try.func26, Try.ntmps26
    go_wp2_with fail
    refine (CA.out _).mono ?_
    rintro e w2 ⟨rfl, hb2⟩
    have HB2 := Lib.hid (HW.out.trans (hb2.mono HW.out.size))
    have HBb := Lib.hid (HB.out.keep hb2)
    clear hb2 a0 a1 a2 b0 b1 b2
    obtain ⟨b0, b1, b2⟩ := HBb.out.cell
    go_wp2_with fail
    refine (CB.out _).mono ?_
    rintro e w3 ⟨rfl, hb3⟩
    have HB3 := Lib.hid (HB2.out.trans (hb3.mono HB2.out.size))
    clear hb3 b0 b1 b2
    go_wp2
    go_ret2
    exact ⟨rfl, HB3.out⟩
  · have e0 : twoB a b = true := by unfold twoB; rw [h1, h2]; rfl
    have CA := Lib.hid (valid_is a true h1)
    have CB := Lib.hid (valid_is b true h2)
    have ka := okB_iff.1 h1
    have kb := okB_iff.1 h2
    have hw1 : IntKind.i64.wrap (b.x - a.x) = b.x - a.x := wrap_in (by omega)
    have hw2 : IntKind.i64.wrap (b.y - a.y) = b.y - a.y := wrap_in (by omega)
    rw [e0]
    clear e0 ka kb
    go_enter Try.func26, Try.ntmps26
    go_wp2_with fail
    refine (CA.out _).mono ?_
    rintro e w2 ⟨rfl, hb2⟩
    have HB2 := Lib.hid (HW.out.trans (hb2.mono HW.out.size))
    have HAb := Lib.hid (HA.out.keep hb2)
    have HBb := Lib.hid (HB.out.keep hb2)
    clear hb2 a0 a1 a2 b0 b1 b2
    obtain ⟨b0, b1, b2⟩ := HBb.out.cell
    go_wp2_with fail
    refine (CB.out _).mono ?_
    rintro e w3 ⟨rfl, hb3⟩
    have HB3 := Lib.hid (HB2.out.trans (hb3.mono HB2.out.size))
    obtain ⟨c0, c1, c2⟩ := (HAb.out.keep hb3).cell
    obtain ⟨d0, d1, d2⟩ := (HBb.out.keep hb3).cell
    clear hb3 b0 b1 b2
    go_wp2_with fail
    go_quiet (fail)
    go_wp2
    go_ret2
    exact ⟨rfl, below_drewN HB3.out _⟩
theorem step_is {a b : BlockD} (ha : okB a = true) (hb : okB b = true) (w : World) : Calls Try.prog 26 #[BV a, BV b] w fun e w' => e = .returned (.tuple #[.int .i64 (b.x - a.x), .int .i64 (b.y - a.y)]) ∧ Below w.heap.size w w' := by
  have h := refStep_c a b w
  have e0 : twoB a b = true := by unfold twoB; rw [ha, hb]; rfl
  simp only [e0, if_true] at h
  exact h
end Go.Proofs.Ytifnmfljlgaeoaa
