/- Contracts of the reference's Turn of layer 8. -/
import Derived.Test.YtifnmfljlgaeoaaPlRef
namespace Go.Proofs.Ytifnmfljlgaeoaa
open Go Go.RowKit Fl

theorem three_new (w : World) (a b c : BlockD) : BlkAt (((w.alloc (.cells #[Sv a.name, Iv a.x, Iv a.y] 23)).alloc (.cells #[Sv b.name, Iv b.x, Iv b.y] 23)).alloc (.cells #[Sv c.name, Iv c.x, Iv c.y] 23)) w.heap.size a ∧ BlkAt (((w.alloc (.cells #[Sv a.name, Iv a.x, Iv a.y] 23)).alloc (.cells #[Sv b.name, Iv b.x, Iv b.y] 23)).alloc (.cells #[Sv c.name, Iv c.x, Iv c.y] 23)) (w.heap.size + 1) b ∧ BlkAt (((w.alloc (.cells #[Sv a.name, Iv a.x, Iv a.y] 23)).alloc (.cells #[Sv b.name, Iv b.x, Iv b.y] 23)).alloc (.cells #[Sv c.name, Iv c.x, Iv c.y] 23)) (w.heap.size + 2) c ∧ Below w.heap.size w (((w.alloc (.cells #[Sv a.name, Iv a.x, Iv a.y] 23)).alloc (.cells #[Sv b.name, Iv b.x, Iv b.y] 23)).alloc (.cells #[Sv c.name, Iv c.x, Iv c.y] 23)) := by
  obtain ⟨ha, hb, hw⟩ := two_new w a b
  refine ⟨ha.keep (below_newP _ _), hb.keep (below_newP _ _), ?_, hw.trans ((below_newP _ _).mono hw.size)⟩
  have h := box_new ((w.alloc (.cells #[Sv a.name, Iv a.x, Iv a.y] 23)).alloc (.cells #[Sv b.name, Iv b.x, Iv b.y] 23)) c
  rwa [show ((w.alloc (.cells #[Sv a.name, Iv a.x, Iv a.y] 23)).alloc (.cells #[Sv b.name, Iv b.x, Iv b.y] 23)).heap.size = w.heap.size + 2 by simp] at h
set_option maxRecDepth 100000 in
set_option maxHeartbeats 4000000 in
theorem turnBad_c (a b c : BlockD) (h : threeB a b c = false) (w : World) : Calls Try.prog 27 #[BV a, BV b, BV c] w fun e w' => e = .returned (.tuple #[.int .i64 0, .int .i64 19]) ∧ Below w.heap.size w w' := by
  obtain ⟨ha, hb, hc, hw⟩ := three_new w a b c
  have HB := Lib.hid hb
  have HC := Lib.hid hc
  have HW := Lib.hid hw
  obtain ⟨a0, a1, a2⟩ := ha.cell
  clear ha hb hc hw
  rcases bool3 (okB a) (okB b) (okB c) with h1 | ⟨h1, h2⟩ | ⟨h1, h2, h3⟩ | ⟨h1, h2, h3⟩
  · have CA := Lib.hid (valid_is a false h1)
    clear h
    go_enter Try.func27, Try.ntmps27
    go_wp2_with fail
    refine (CA.out _).mono ?_
    rintro e w2 ⟨rfl, hb2⟩
    have HB2 := Lib.hid (HW.out.trans (hb2.mono HW.out.size))
    clear hb2 a0 a1 a2
    go_wp2
    go_ret2
    exact ⟨rfl, HB2.out⟩
  · have CA := Lib.hid (valid_is a true h1)
    have CB := Lib.hid (valid_is b false h2)
    clear h
    go_enter Try.func27, Try.ntmps27
    go_wp2_with fail
    refine (CA.out _).mono ?_
    rintro e w2 ⟨rfl, hb2⟩
    have HB2 := Lib.hid (HW.out.trans (hb2.mono HW.out.size))
    have HBb := Lib.hid (HB.out.keep hb2)
    clear hb2 a0 a1 a2
    obtain ⟨b0, b1, b2⟩ := HBb.out.cell
    go_wp2_with fail
    refine (CB.out _).mono ?_
    rintro e w3 ⟨rfl, hb3⟩
    have HB3 := Lib.hid (HB2.out.trans (hb3.mono HB2.out.size))
    clear hb3 b0 b1 b2
    go_wp2
    go_ret2
    exact ⟨rfl, HB3.out⟩
  · have CA := Lib.hid (valid_is a true h1)
    have CB := Lib.hid (valid_is b true h2)
    have CC := Lib.hid (valid_is c false h3)
    clear h
    go_enter Try.func27, Try.ntmps27
    go_wp2_with fail
    refine (CA.out _).mono ?_
    rintro e w2 ⟨rfl, hb2⟩
    have HB2 := Lib.hid (HW.out.trans (hb2.mono HW.out.size))
    have HBb := Lib.hid (HB.out.keep hb2)
    have HCb := Lib.hid (HC.out.keep hb2)
    clear hb2 a0 a1 a2
    obtain ⟨b0, b1, b2⟩ := HBb.out.cell
    go_wp2_with fail
    refine (CB.out _).mono ?_
    rintro e w3 ⟨rfl, hb3⟩
    have HB3 := Lib.hid (HB2.out.trans (hb3.mono HB2.out.size))
    have HCc := Lib.hid (HCb.out.keep hb3)
    clear hb3 b0 b1 b2
    obtain ⟨b0, b1, b2⟩ := HCc.out.cell
    go_wp2_with fail
    refine (CC.out _).mono ?_
    rintro e w4 ⟨rfl, hb4⟩
    have HB4 := Lib.hid (HB3.out.trans (hb4.mono HB3.out.size))
    clear hb4 b0 b1 b2
    go_wp2
    go_ret2
    exact ⟨rfl, HB4.out⟩
  · unfold threeB at h
    rw [h1, h2, h3] at h
    cases h
set_option maxRecDepth 100000 in
set_option maxHeartbeats 4000000 in
theorem turnOk_c (a b c : BlockD) (h1 : okB a = true) (h2 : okB b = true) (h3 : okB c = true) (w : World) : Calls Try.prog 27 #[BV a, BV b, BV c] w fun e w' => e = .returned (.tuple #[.int .i64 (turnZ a b c), .int .i64 0]) ∧ Below w.heap.size w w' := by
  obtain ⟨ha, hb, hc, hw⟩ := three_new w a b c
  have HA := Lib.hid ha
  have HB := Lib.hid hb
  have HC := Lib.hid hc
  have HW := Lib.hid hw
  obtain ⟨a0, a1, a2⟩ := ha.cell
  clear ha hb hc hw
  have CA := Lib.hid (valid_is a true h1)
  have CB := Lib.hid (valid_is b true h2)
  have CC := Lib.hid (valid_is c true h3)
  have C1 := Lib.hid (step_is h1 h2)
  have C2 := Lib.hid (step_is h2 h3)
  have ka := okB_iff.1 h1
  have kb := okB_iff.1 h2
  have kc := okB_iff.1 h3
  have HT : Hid (turnZ a b c = turnOf ((c.x - b.x) * (b.x - a.x) + (c.y - b.y) * (b.y - a.y)) ((c.y - b.y) * (b.x - a.x) - (c.x - b.x) * (b.y - a.y))) := Lib.hid rfl
  obtain ⟨x, hx⟩ : ∃ x, b.x - a.x = x := ⟨_, rfl⟩
  obtain ⟨y, hy⟩ : ∃ y, b.y - a.y = y := ⟨_, rfl⟩
  obtain ⟨u, hu⟩ : ∃ u, c.x - b.x = u := ⟨_, rfl⟩
  obtain ⟨v, hv⟩ : ∃ v, c.y - b.y = v := ⟨_, rfl⟩
  rw [hx, hy, hu, hv] at HT
  rw [hx, hy] at C1
  rw [hu, hv] at C2
  have m1 := mul_bound (a := u) (b := x) (A := 19998) (B := 19998) (by omega) (by omega)
  have m2 := mul_bound (a := v) (b := y) (A := 19998) (B := 19998) (by omega) (by omega)
  have m3 := mul_bound (a := v) (b := x) (A := 19998) (B := 19998) (by omega) (by omega)
  have m4 := mul_bound (a := u) (b := y) (A := 19998) (B := 19998) (by omega) (by omega)
  have w1 : IntKind.i64.wrap (u * x) = u * x := wrap_in (by omega)
  have w2 : IntKind.i64.wrap (v * y) = v * y := wrap_in (by omega)
  have w3 : IntKind.i64.wrap (v * x) = v * x := wrap_in (by omega)
  have w4 : IntKind.i64.wrap (u * y) = u * y := wrap_in (by omega)
  have w5 : IntKind.i64.wrap (u * x + v * y) = u * x + v * y := wrap_in (by omega)
  have w6 : IntKind.i64.wrap (v * x - u * y) = v * x - u * y := wrap_in (by omega)
  have hcase : (decide (0 < v * x - u * y) = true ∧ turnZ a b c = 1) ∨ (decide (0 < v * x - u * y) = false ∧ decide (v * x - u * y < 0) = true ∧ turnZ a b c = 2) ∨ (decide (0 < v * x - u * y) = false ∧ decide (v * x - u * y < 0) = false ∧ decide (0 < u * x + v * y) = true ∧ turnZ a b c = 3) ∨ (decide (0 < v * x - u * y) = false ∧ decide (v * x - u * y < 0) = false ∧ decide (0 < u * x + v * y) = false ∧ decide (u * x + v * y < 0) = true ∧ turnZ a b c = 4) ∨ (decide (0 < v * x - u * y) = false ∧ decide (v * x - u * y < 0) = false ∧ decide (0 < u * x + v * y) = false ∧ decide (u * x + v * y < 0) = false ∧ turnZ a b c = 0) := by
    rw [HT.out]
    unfold turnOf
    simp only [decide_eq_true_eq, decide_eq_false_iff_not]
    split
    · omega
    · split
      · omega
      · split
        · omega
        · split <;> omega
  have q1 : decide (u * y < v * x) = decide (0 < v * x - u * y) := by rw [decide_eq_decide]; omega
  have q2 : decide (v * x < u * y) = decide (v * x - u * y < 0) := by rw [decide_eq_decide]; omega
  have HQ1 := Lib.hid q1
  have HQ2 := Lib.hid q2
  clear q1 q2 m1 m2 m3 m4 ka kb kc hx hy hu hv HT h1 h2 h3
  generalize turnZ a b c = t at *
  go_enter Try.func27, Try.ntmps27
  go_wp2_with fail
  refine (CA.out _).mono ?_
  rintro e v2 ⟨rfl, hb2⟩
  have HB2 := Lib.hid (HW.out.trans (hb2.mono HW.out.size))
  have HAb := Lib.hid (HA.out.keep hb2)
  have HBb := Lib.hid (HB.out.keep hb2)
  have HCb := Lib.hid (HC.out.keep hb2)
  clear hb2 a0 a1 a2 HA HB HC HW CA
  obtain ⟨b0, b1, b2⟩ := HBb.out.cell
  go_wp2_with fail
  refine (CB.out _).mono ?_
  rintro e v3 ⟨rfl, hb3⟩
  have HB3 := Lib.hid (HB2.out.trans (hb3.mono HB2.out.size))
  have HA3 := Lib.hid (HAb.out.keep hb3)
  have HBB3 := Lib.hid (HBb.out.keep hb3)
  have HC3 := Lib.hid (HCb.out.keep hb3)
  clear hb3 b0 b1 b2 HAb HBb HCb HB2 CB
  obtain ⟨b0, b1, b2⟩ := HC3.out.cell
  go_wp2_with fail
  refine (CC.out _).mono ?_
  rintro e v4 ⟨rfl, hb4⟩
  have HB4 := Lib.hid (HB3.out.trans (hb4.mono HB3.out.size))
  have HA4 := Lib.hid (HA3.out.keep hb4)
  have HBB4 := Lib.hid (HBB3.out.keep hb4)
  have HC4 := Lib.hid (HC3.out.keep hb4)
  clear hb4 b0 b1 b2 HA3 HBB3 HC3 HB3 CC
  obtain ⟨a0, a1, a2⟩ := HA4.out.cell
  obtain ⟨b0, b1, b2⟩ := HBB4.out.cell
  go_wp2_with fail
  refine (C1.out _).mono ?_
  rintro e v5 ⟨rfl, hb5⟩
  have HB5 := Lib.hid (HB4.out.trans (hb5.mono HB4.out.size))
  have HBB5 := Lib.hid (HBB4.out.keep hb5)
  have HC5 := Lib.hid (HC4.out.keep hb5)
  clear hb5 a0 a1 a2 b0 b1 b2 HA4 HBB4 HC4 HB4 C1
  obtain ⟨a0, a1, a2⟩ := HBB5.out.cell
  obtain ⟨b0, b1, b2⟩ := HC5.out.cell
  go_wp2_with fail
  refine (C2.out _).mono ?_
  rintro e v6 ⟨rfl, hb6⟩
  have HB6 := Lib.hid (HB5.out.trans (hb6.mono HB5.out.size))
  clear hb6 a0 a1 a2 b0 b1 b2 HBB5 HC5 HB5 C2
  rcases hcase with ⟨d1, rfl⟩ | ⟨d1, d2, rfl⟩ | ⟨d1, d2, d3, rfl⟩ | ⟨d1, d2, d3, d4, rfl⟩ | ⟨d1, d2, d3, d4, rfl⟩
  all_goals
    have q1 := HQ1.out
    rw [d1] at q1
    try
      have q2 := HQ2.out
      rw [d2] at q2
    clear HQ1 HQ2
    go_wp2
    go_ret2
    exact ⟨rfl, HB6.out⟩
def turnE (a b c : BlockD) : Int := if threeB a b c then 0 else 19
def turnR (a b c : BlockD) : Int := if threeB a b c then turnZ a b c else 0
theorem refTurn_c (a b c : BlockD) (w : World) : Calls Try.prog 27 #[BV a, BV b, BV c] w fun e w' => e = .returned (.tuple #[.int .i64 (turnR a b c), .int .i64 (turnE a b c)]) ∧ Below w.heap.size w w' := by
  rcases h : threeB a b c with _ | _
  · have e1 : turnR a b c = 0 := by unfold turnR; rw [h]; rfl
    have e2 : turnE a b c = 19 := by unfold turnE; rw [h]; rfl
    rw [e1, e2]
    exact turnBad_c a b c h w
  · have e1 : turnR a b c = turnZ a b c := by unfold turnR; rw [h]; rfl
    have e2 : turnE a b c = 0 := by unfold turnE; rw [h]; rfl
    rw [e1, e2]
    unfold threeB at h
    simp only [Bool.and_eq_true] at h
    exact turnOk_c a b c h.1.1 h.1.2 h.2 w
end Go.Proofs.Ytifnmfljlgaeoaa
