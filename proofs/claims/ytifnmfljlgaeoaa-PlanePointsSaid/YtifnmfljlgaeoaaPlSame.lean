/- Contract of the statements' same of layer 8: all functions return what the reference returns. -/
import Derived.Test.YtifnmfljlgaeoaaPlMoved
import Derived.Test.YtifnmfljlgaeoaaPlTurns
import Derived.Laws.StructEq
namespace Go.Proofs.Ytifnmfljlgaeoaa
open Go Go.RowKit Fl

theorem near_isF {v : Int} (h : -1000000 ≤ v ∧ v ≤ 1000000) : IsF (floatOfInt .f64 v) v := nearest_isF (by omega)
theorem order_eqn {a b : Nat} {x : Int} (h1 : IsF a x) (h2 : IsF b x) : FloatKind.f64.format.order a b = some Ordering.eq := (order_isF h1 h2).trans (by rw [Int.compare_eq_eq.2 rfl])
theorem at_small (b : BlockD) : (-1000000 ≤ (if okB b then b.x else 0) ∧ (if okB b then b.x else 0) ≤ 1000000) ∧ -1000000 ≤ (if okB b then b.y else 0) ∧ (if okB b then b.y else 0) ≤ 1000000 := by
  split
  · rename_i h
    have := okB_iff.1 h
    omega
  · omega
theorem step_small (a b : BlockD) : (-1000000 ≤ (if twoB a b then b.x - a.x else 0) ∧ (if twoB a b then b.x - a.x else 0) ≤ 1000000) ∧ -1000000 ≤ (if twoB a b then b.y - a.y else 0) ∧ (if twoB a b then b.y - a.y else 0) ≤ 1000000 := by
  split
  · rename_i h
    unfold twoB at h
    simp only [Bool.and_eq_true] at h
    have := okB_iff.1 h.1
    have := okB_iff.1 h.2
    omega
  · omega
set_option maxRecDepth 100000 in
set_option maxHeartbeats 16000000 in
theorem same_c (hA : DevAt) (hSt : DevStep) (hT : DevTurn) (hS : DevSquare) (hRo : DevRotate) (hMi : DevMirror) (a b c : BlockD) (q : Int) (hq : -9223372036854775808 ≤ q ∧ q ≤ 9223372036854775807) (hnm : a.name.length ≤ 140737488355328) (w : World) :
    Calls Try.prog 11 #[BV a, BV b, BV c, .int .i64 q] w fun e w' => e = .returned (.bool true) ∧ Below w.heap.size w w' := by
  obtain ⟨ha, hb, hc, hw⟩ := three_new w a b c
  have HA0 := Lib.hid ha
  have HB0 := Lib.hid hb
  have HC0 := Lib.hid hc
  have HW0 := Lib.hid hw
  have DA := Lib.hid (hA a)
  have DS := Lib.hid (hSt a b)
  have DT := Lib.hid (hT a b c)
  have DQ := Lib.hid (hS a b)
  have DR := Lib.hid (fun W => hRo a q W hnm hq)
  have DM := Lib.hid (fun W => hMi a W hnm)
  have RA := Lib.hid (refAt_c a)
  have RS := Lib.hid (refStep_c a b)
  have RT := Lib.hid (refTurn_c a b c)
  have RQ := Lib.hid (refSquare_c a b)
  have RR := Lib.hid (refRotate_c a q)
  have RM := Lib.hid (refMirror_c a)
  obtain ⟨sx, sy⟩ := at_small a
  obtain ⟨tx, ty⟩ := step_small a b
  clear ha hb hc hw hA hSt hT hS hRo hMi hq hnm
  generalize (if okB a then a.x else 0) = x at *
  generalize (if okB a then a.y else 0) = y at *
  generalize (if twoB a b then b.x - a.x else 0) = u at *
  generalize (if twoB a b then b.y - a.y else 0) = v at *
  have fx := Lib.hid (near_isF sx)
  have fy := Lib.hid (near_isF sy)
  have fu := Lib.hid (near_isF tx)
  have fv := Lib.hid (near_isF ty)
  clear sx sy tx ty
  generalize turnR a b c = tr at *
  generalize turnE a b c = te at *
  generalize squareR a b = sr at *
  generalize twoBE a b = se at *
  generalize rotR a q = rr at *
  generalize mirR a = mr at *
  generalize oneE a = oe at *
  go_enter Try.func11, Try.ntmps11
  obtain ⟨a0, a1, a2⟩ := HA0.out.cell
  go_wp2_with fail
  refine (RA.out _).mono ?_
  rintro e w1 ⟨rfl, hb⟩
  have HW1 := Lib.hid (HW0.out.trans (hb.mono HW0.out.size))
  have HA1 := Lib.hid (HA0.out.keep hb)
  have HB1 := Lib.hid (HB0.out.keep hb)
  have HC1 := Lib.hid (HC0.out.keep hb)
  clear hb HW0 HA0 HB0 HC0 RA a0 a1 a2
  obtain ⟨a0, a1, a2⟩ := HA1.out.cell
  obtain ⟨b0, b1, b2⟩ := HB1.out.cell
  go_wp2_with fail
  refine (RS.out _).mono ?_
  rintro e w2 ⟨rfl, hb⟩
  have HW2 := Lib.hid (HW1.out.trans (hb.mono HW1.out.size))
  have HA2 := Lib.hid (HA1.out.keep hb)
  have HB2 := Lib.hid (HB1.out.keep hb)
  have HC2 := Lib.hid (HC1.out.keep hb)
  clear hb HW1 HA1 HB1 HC1 RS a0 a1 a2 b0 b1 b2
  obtain ⟨a0, a1, a2⟩ := HA2.out.cell
  obtain ⟨b0, b1, b2⟩ := HB2.out.cell
  obtain ⟨c0, c1, c2⟩ := HC2.out.cell
  go_wp2_with fail
  refine (DT.out _).mono ?_
  rintro e w3 ⟨rfl, hb⟩
  have HW3 := Lib.hid (HW2.out.trans (hb.mono HW2.out.size))
  have HA3 := Lib.hid (HA2.out.keep hb)
  have HB3 := Lib.hid (HB2.out.keep hb)
  have HC3 := Lib.hid (HC2.out.keep hb)
  clear hb HW2 HA2 HB2 HC2 DT a0 a1 a2 b0 b1 b2 c0 c1 c2
  obtain ⟨a0, a1, a2⟩ := HA3.out.cell
  obtain ⟨b0, b1, b2⟩ := HB3.out.cell
  obtain ⟨c0, c1, c2⟩ := HC3.out.cell
  go_wp2_with fail
  refine (RT.out _).mono ?_
  rintro e w4 ⟨rfl, hb⟩
  have HW4 := Lib.hid (HW3.out.trans (hb.mono HW3.out.size))
  have HA4 := Lib.hid (HA3.out.keep hb)
  have HB4 := Lib.hid (HB3.out.keep hb)
  have HC4 := Lib.hid (HC3.out.keep hb)
  clear hb HW3 HA3 HB3 HC3 RT a0 a1 a2 b0 b1 b2 c0 c1 c2
  obtain ⟨a0, a1, a2⟩ := HA4.out.cell
  obtain ⟨b0, b1, b2⟩ := HB4.out.cell
  go_wp2_with fail
  refine (DQ.out _).mono ?_
  rintro e w5 ⟨rfl, hb⟩
  have HW5 := Lib.hid (HW4.out.trans (hb.mono HW4.out.size))
  have HA5 := Lib.hid (HA4.out.keep hb)
  have HB5 := Lib.hid (HB4.out.keep hb)
  have HC5 := Lib.hid (HC4.out.keep hb)
  clear hb HW4 HA4 HB4 HC4 DQ a0 a1 a2 b0 b1 b2
  obtain ⟨a0, a1, a2⟩ := HA5.out.cell
  obtain ⟨b0, b1, b2⟩ := HB5.out.cell
  go_wp2_with fail
  refine (RQ.out _).mono ?_
  rintro e w6 ⟨rfl, hb⟩
  have HW6 := Lib.hid (HW5.out.trans (hb.mono HW5.out.size))
  have HA6 := Lib.hid (HA5.out.keep hb)
  have HB6 := Lib.hid (HB5.out.keep hb)
  have HC6 := Lib.hid (HC5.out.keep hb)
  clear hb HW5 HA5 HB5 HC5 RQ a0 a1 a2 b0 b1 b2
  obtain ⟨a0, a1, a2⟩ := HA6.out.cell
  go_wp2_with fail
  refine (DA.out _).mono ?_
  rintro e w7 ⟨_, rfl, ⟨re, im, rfl, i1, i2⟩, hb⟩
  have HW7 := Lib.hid (HW6.out.trans (hb.mono HW6.out.size))
  have HA7 := Lib.hid (HA6.out.keep hb)
  have HB7 := Lib.hid (HB6.out.keep hb)
  have HC7 := Lib.hid (HC6.out.keep hb)
  clear hb HW6 HA6 HB6 HC6 DA a0 a1 a2
  have o1 := order_eqn i1 fx.out
  have o2 := order_eqn i2 fy.out
  clear i1 i2 fx fy
  obtain ⟨a0, a1, a2⟩ := HA7.out.cell
  obtain ⟨b0, b1, b2⟩ := HB7.out.cell
  go_wp2_with fail
  refine (DS.out _).mono ?_
  rintro e w8 ⟨_, rfl, ⟨re2, im2, rfl, i1, i2⟩, hb⟩
  have HW8 := Lib.hid (HW7.out.trans (hb.mono HW7.out.size))
  have HA8 := Lib.hid (HA7.out.keep hb)
  have HB8 := Lib.hid (HB7.out.keep hb)
  have HC8 := Lib.hid (HC7.out.keep hb)
  clear hb HW7 HA7 HB7 HC7 DS a0 a1 a2 b0 b1 b2
  have o3 := order_eqn i1 fu.out
  have o4 := order_eqn i2 fv.out
  have q1 : (tr != tr) = false := by simp
  have q2 : (te != te) = false := by simp
  have q3 : (sr != sr) = false := by simp
  have q4 : (se != se) = false := by simp
  clear i1 i2 fu fv
  obtain ⟨a0, a1, a2⟩ := HA8.out.cell
  go_wp2_with fail
  refine (DR.out _).mono ?_
  rintro e w9 ⟨rfl, hb⟩
  have hW9 := HW8.out.trans (hb.mono HW8.out.size)
  have HW9 := Lib.hid (hW9.trans ((below_newP w9 (.cells #[Sv rr.name, Iv rr.x, Iv rr.y] 23)).mono hW9.size))
  have HA9 := Lib.hid ((HA8.out.keep hb).keep (below_newP w9 (.cells #[Sv rr.name, Iv rr.x, Iv rr.y] 23)))
  have HN9_9 := Lib.hid (box_new w9 rr)
  clear hW9 hb HW8 HA8 DR a0 a1 a2
  obtain ⟨a0, a1, a2⟩ := HA9.out.cell
  go_wp2_with fail
  refine (RR.out _).mono ?_
  rintro e w10 ⟨rfl, hb⟩
  have hW10 := HW9.out.trans (hb.mono HW9.out.size)
  have HW10 := Lib.hid (hW10.trans ((below_newP w10 (.cells #[Sv rr.name, Iv rr.x, Iv rr.y] 23)).mono hW10.size))
  have HA10 := Lib.hid ((HA9.out.keep hb).keep (below_newP w10 (.cells #[Sv rr.name, Iv rr.x, Iv rr.y] 23)))
  have HN10_10 := Lib.hid (box_new w10 rr)
  have HN9_10 := Lib.hid ((HN9_9.out.keep hb).keep (below_newP w10 (.cells #[Sv rr.name, Iv rr.x, Iv rr.y] 23)))
  clear hW10 hb HW9 HA9 RR a0 a1 a2 HN9_9
  obtain ⟨a0, a1, a2⟩ := HA10.out.cell
  go_wp2_with fail
  refine (DM.out _).mono ?_
  rintro e w11 ⟨rfl, hb⟩
  have hW11 := HW10.out.trans (hb.mono HW10.out.size)
  have HW11 := Lib.hid (hW11.trans ((below_newP w11 (.cells #[Sv mr.name, Iv mr.x, Iv mr.y] 23)).mono hW11.size))
  have HA11 := Lib.hid ((HA10.out.keep hb).keep (below_newP w11 (.cells #[Sv mr.name, Iv mr.x, Iv mr.y] 23)))
  have HN11_11 := Lib.hid (box_new w11 mr)
  have HN9_11 := Lib.hid ((HN9_10.out.keep hb).keep (below_newP w11 (.cells #[Sv mr.name, Iv mr.x, Iv mr.y] 23)))
  have HN10_11 := Lib.hid ((HN10_10.out.keep hb).keep (below_newP w11 (.cells #[Sv mr.name, Iv mr.x, Iv mr.y] 23)))
  clear hW11 hb HW10 HA10 DM a0 a1 a2 HN9_10 HN10_10
  obtain ⟨a0, a1, a2⟩ := HA11.out.cell
  go_wp2_with fail
  refine (RM.out _).mono ?_
  rintro e w12 ⟨rfl, hb⟩
  have hW12 := HW11.out.trans (hb.mono HW11.out.size)
  have HW12 := Lib.hid (hW12.trans ((below_newP w12 (.cells #[Sv mr.name, Iv mr.x, Iv mr.y] 23)).mono hW12.size))
  have HA12 := Lib.hid ((HA11.out.keep hb).keep (below_newP w12 (.cells #[Sv mr.name, Iv mr.x, Iv mr.y] 23)))
  have HN12_12 := Lib.hid (box_new w12 mr)
  have HN9_12 := Lib.hid ((HN9_11.out.keep hb).keep (below_newP w12 (.cells #[Sv mr.name, Iv mr.x, Iv mr.y] 23)))
  have HN10_12 := Lib.hid ((HN10_11.out.keep hb).keep (below_newP w12 (.cells #[Sv mr.name, Iv mr.x, Iv mr.y] 23)))
  have HN11_12 := Lib.hid ((HN11_11.out.keep hb).keep (below_newP w12 (.cells #[Sv mr.name, Iv mr.x, Iv mr.y] 23)))
  clear hW12 hb HW11 HA11 RM a0 a1 a2 HN9_11 HN10_11 HN11_11
  obtain ⟨p0, p1, p2⟩ := HN9_12.out.cell
  obtain ⟨r0, r1, r2⟩ := HN10_12.out.cell
  obtain ⟨m0, m1, m2⟩ := HN11_12.out.cell
  obtain ⟨n0, n1, n2⟩ := HN12_12.out.cell
  clear HA12 HN9_12 HN10_12 HN11_12 HN12_12
  go_wp2
  go_ret
  exact ⟨rfl, HW12.out⟩
end Go.Proofs.Ytifnmfljlgaeoaa
