/- Contracts of plane's Square, Mirror and Rotate. -/
import Derived.Test.YtifnmfljlgaeoaaPdTurn
import Derived.Test.YtifnmfljlgaeoaaShelf
import Derived.Laws.Bits128
import Derived.Laws.Rows
namespace Go.Proofs.Ytifnmfljlgaeoaa
open Go Go.RowKit Fl

theorem clone8_c (l : List UInt8) (w : World) (hs : l.length ≤ 140737488355328) : Calls Try.prog 40 #[Sv l] w fun e w' => e = .returned (Sv l) ∧ Below w.heap.size w w' := by
  have C := Lib.hid (Try.stringslite_Clone ⟨l.toArray⟩ w (by show l.length ≤ _; omega))
  go_enter Try.func40, Try.ntmps40
  go_wp2_with (go_at_call 41; refine (C.out).mono ?_; rintro e w1 ⟨rfl, hb⟩)
  go_ret
  exact ⟨rfl, hb⟩
theorem Try.to_int {re : Nat} {x : Int} (h : IsF re x) (hx : -1000000000000 ≤ x ∧ x ≤ 1000000000000) (W : World) : (convert 58 3 (.float .f64 re)).run Try.prog W = .ok (.int .i64 x) W :=
  run_convert_float_int W 58 3 .f64 .i64 re x (by rw [Try.underlying58]; rfl) Try.underlying3 (toInt_val h hx)
theorem row2a (w : World) (a : BlockD) (oa ob : Obj) : Holds (((w.alloc oa).alloc ob).alloc (.cells #[Sv a.name, Iv a.x, Iv a.y] 23)) (some ⟨w.heap.size + 1 + 1, 0, none⟩) (blockCells [a]) := by
  have h : Holds (((w.alloc oa).alloc ob).alloc (.cells #[Sv a.name, Iv a.x, Iv a.y] 23)) (some ⟨((w.alloc oa).alloc ob).heap.size, 0, none⟩) (blockCells [a]) := holds_blkP (heap_alloc_new _ _) rfl
  rwa [show ((w.alloc oa).alloc ob).heap.size = w.heap.size + 1 + 1 by simp] at h
set_option maxRecDepth 100000 in
set_option maxHeartbeats 4000000 in
theorem devSquareOk_c {a b : BlockD} (h : twoB a b = true) (w : World) : Calls Try.prog 19 #[BV a, BV b] w fun e w' => e = .returned (.tuple #[.int .i64 (squareZ a b), .int .i64 0]) ∧ Below w.heap.size w w' := by
  obtain ⟨ha, hb, hw⟩ := two_new w a b
  have HA := Lib.hid ha
  have HB := Lib.hid hb
  have HW := Lib.hid hw
  obtain ⟨a0, a1, a2⟩ := ha.cell
  obtain ⟨b0, b1, b2⟩ := hb.cell
  clear ha hb hw
  have HR := Lib.hid (row2 w a b (.cells #[Sv a.name, Iv a.x, Iv a.y] 23) (.cells #[Sv b.name, Iv b.x, Iv b.y] 23))
  have HW2 := Lib.hid (below_newP ((w.alloc (.cells #[Sv a.name, Iv a.x, Iv a.y] 23)).alloc (.cells #[Sv b.name, Iv b.x, Iv b.y] 23)) (.cells #[Sv a.name, Iv a.x, Iv a.y, Sv b.name, Iv b.x, Iv b.y] 23))
  have CV := Lib.hid (valid2 a b 2 true h)
  have CS := Lib.hid (stepOk_c h)
  have HF : Hid (∀ {re im : Nat}, IsF re (b.x - a.x) → IsF im (b.y - a.y) → ∃ p q, cMulBits re im re (Op.negFloat .f64 im) = some (p, q) ∧ (∀ W : World, (convert 58 3 (.float .f64 p)).run Try.prog W = .ok (.int .i64 (squareZ a b)) W)) := Lib.hid (fun k1 k2 => by
    obtain ⟨h1, h2⟩ := twoB_true h
    have h1 := okB_iff.1 h1
    have h2 := okB_iff.1 h2
    obtain ⟨p, q, e1, e2, _⟩ := prodC k1 k2 k1 k2 (by omega) (by omega) (by omega) (by omega)
    have m1 := mul_bound (a := b.x - a.x) (b := b.x - a.x) (A := 19998) (B := 19998) (by omega) (by omega)
    have m2 := mul_bound (a := b.y - a.y) (b := b.y - a.y) (A := 19998) (B := 19998) (by omega) (by omega)
    exact ⟨p, q, e1, Try.to_int e2 (by unfold squareZ; omega)⟩)
  clear h
  generalize squareZ a b = sq at *
  go_enter Try.func19, Try.ntmps19
  go_wp2_with fail
  refine (CV.out _ _ HR.out).mono ?_
  rintro e w1 ⟨rfl, hb2⟩
  have HW1 := Lib.hid (HW.out.trans ((HW2.out.trans (hb2.mono HW2.out.size)).mono HW.out.size))
  have HK := Lib.hid (two_keep ((HA.out.keep HW2.out).keep hb2) ((HB.out.keep HW2.out).keep hb2))
  clear hb2 a0 a1 a2 b0 b1 b2 CV HR HW2 HA HB HW
  obtain ⟨a0, a1, a2, b0, b1, b2⟩ := HK.out w1 (Below.refl _ _)
  go_wp2_with fail
  refine (CS.out _).mono ?_
  rintro e w2 ⟨re, im, rfl, k1, k2, hb2⟩
  have HW3 := Lib.hid (HW1.out.trans (hb2.mono HW1.out.size))
  obtain ⟨p, q, hm, hcv⟩ := HF.out k1 k2
  have CC := Lib.hid (conj_c re im)
  have hmul := fun (t : TypeId) (W : World) => run_complex_mul (P := Try.prog) W t re im re (Op.negFloat .f64 im) p q hm
  clear hb2 a0 a1 a2 b0 b1 b2 CS HK HF k1 k2 hm HW1
  go_wp2_with fail
  refine (CC.out _).mono ?_
  rintro e w4 ⟨rfl, rfl⟩
  go_wp2
  go_ret2
  exact ⟨rfl, HW3.out⟩
set_option maxRecDepth 100000 in
set_option maxHeartbeats 4000000 in
theorem devSquareBad_c {a b : BlockD} (h : twoB a b = false) (w : World) : Calls Try.prog 19 #[BV a, BV b] w fun e w' => e = .returned (.tuple #[.int .i64 0, .int .i64 19]) ∧ Below w.heap.size w w' := by
  obtain ⟨ha, hb, hw⟩ := two_new w a b
  have HW := Lib.hid hw
  obtain ⟨a0, a1, a2⟩ := ha.cell
  obtain ⟨b0, b1, b2⟩ := hb.cell
  clear ha hb hw
  have HR := Lib.hid (row2 w a b (.cells #[Sv a.name, Iv a.x, Iv a.y] 23) (.cells #[Sv b.name, Iv b.x, Iv b.y] 23))
  have HW2 := Lib.hid (below_newP ((w.alloc (.cells #[Sv a.name, Iv a.x, Iv a.y] 23)).alloc (.cells #[Sv b.name, Iv b.x, Iv b.y] 23)) (.cells #[Sv a.name, Iv a.x, Iv a.y, Sv b.name, Iv b.x, Iv b.y] 23))
  have CV := Lib.hid (valid2 a b 2 false h)
  clear h
  go_enter Try.func19, Try.ntmps19
  go_wp2_with fail
  refine (CV.out _ _ HR.out).mono ?_
  rintro e w1 ⟨rfl, hb2⟩
  have HW1 := Lib.hid (HW.out.trans ((HW2.out.trans (hb2.mono HW2.out.size)).mono HW.out.size))
  clear hb2 a0 a1 a2 b0 b1 b2 CV HR HW2 HW
  go_wp2
  go_ret2
  exact ⟨rfl, HW1.out⟩
theorem devSquare : DevSquare := fun a b w => by
  rcases h : twoB a b with _ | _
  · have e1 : squareR a b = 0 := by unfold squareR; rw [h]; rfl
    have e2 : twoBE a b = 19 := by unfold twoBE; rw [h]; rfl
    rw [e1, e2]
    exact devSquareBad_c h w
  · have e1 : squareR a b = squareZ a b := by unfold squareR; rw [h]; rfl
    have e2 : twoBE a b = 0 := by unfold twoBE; rw [h]; rfl
    rw [e1, e2]
    exact devSquareOk_c h w
set_option maxRecDepth 100000 in
set_option maxHeartbeats 4000000 in
theorem devMoved_c (b : BlockD) (hn : b.name.length ≤ 140737488355328) {re im : Nat} {x y : Int} (hx : IsF re x) (hy : IsF im y) (bx : -1000000000000 ≤ x ∧ x ≤ 1000000000000) (bY : -1000000000000 ≤ y ∧ y ≤ 1000000000000) (w : World) : Calls Try.prog 37 #[BV b, .complex .f64 re im] w fun e w' => e = .returned (BV ⟨b.name, x, y⟩) ∧ Below w.heap.size w w' := by
  obtain ⟨ha, hb, hw⟩ := two_new w b zeroB
  have HA := Lib.hid ha
  have HB := Lib.hid hb
  have HW := Lib.hid hw
  obtain ⟨a0, a1, a2⟩ := ha.cell
  clear ha hb hw
  have CC := Lib.hid (fun W => clone8_c b.name W hn)
  have v1 := Try.to_int hx bx
  have v2 := Try.to_int hy bY
  clear hx hy bx bY hn
  go_enter Try.func37, Try.ntmps37
  go_wp2_with fail
  refine (CC.out _).mono ?_
  rintro e w2 ⟨rfl, hb2⟩
  have HB2 := Lib.hid (HW.out.trans (hb2.mono HW.out.size))
  have HBb := Lib.hid (HB.out.keep hb2)
  clear hb2 a0 a1 a2 CC HA HB HW
  obtain ⟨b0, b1, b2⟩ := HBb.out.cell
  have f0 := HBb.out.frozen 0
  have f1 := HBb.out.frozen 1
  have f2 := HBb.out.frozen 2
  go_wp2
  refine bodyPost_ret (results_cell_row rfl _ _ (w.heap.size + 1) 23 _ (0, 0) _ rfl (HBb.out.set3 b.name x y) Try.underlying23 rfl (by kernel_rfl)) rfl ?_
  exact ⟨rfl, below_set3 HB2.out (by omega) _ _ _⟩
theorem moved_from (b : BlockD) (hn : b.name.length ≤ 140737488355328) (w1 : World) {re im : Nat} {x y : Int} (hx : IsF re x) (hy : IsF im y) (bx : -1000000000000 ≤ x ∧ x ≤ 1000000000000) (bY : -1000000000000 ≤ y ∧ y ≤ 1000000000000) (W : World) (hW : Below w1.heap.size w1 W) : Calls Try.prog 37 #[BV b, .complex .f64 re im] W fun e w' => e = .returned (BV ⟨b.name, x, y⟩) ∧ Below w1.heap.size w1 w' :=
  (devMoved_c b hn hx hy bx bY W).mono (fun _ _ k => ⟨k.1, hW.trans (k.2.mono hW.size)⟩)
set_option maxRecDepth 100000 in
set_option maxHeartbeats 4000000 in
theorem devMirrorOk_c {b : BlockD} (h : okB b = true) (hn : b.name.length ≤ 140737488355328) (w : World) : Calls Try.prog 30 #[BV b] w fun e w' => e = .returned (.tuple #[BV (mirZ b), .int .i64 0]) ∧ Below w.heap.size w w' := by
  obtain ⟨ha, hb, hw⟩ := two_new w b zeroB
  have HA := Lib.hid ha
  have HB := Lib.hid hb
  have HW := Lib.hid hw
  obtain ⟨a0, a1, a2⟩ := ha.cell
  clear ha hb hw
  have HR := Lib.hid (row2a w b (.cells #[Sv b.name, Iv b.x, Iv b.y] 23) (.cells #[Sv zeroB.name, Iv zeroB.x, Iv zeroB.y] 23))
  have HW2 := Lib.hid (below_newP ((w.alloc (.cells #[Sv b.name, Iv b.x, Iv b.y] 23)).alloc (.cells #[Sv zeroB.name, Iv zeroB.x, Iv zeroB.y] 23)) (.cells #[Sv b.name, Iv b.x, Iv b.y] 23))
  have CV := Lib.hid (valid1 b 1 true h)
  have CA := Lib.hid (at_from h)
  have kb := okB_iff.1 h
  have HM := Lib.hid (fun (w1 : World) (re im : Nat) (hx : IsF re b.x) (hy : IsF im b.y) => moved_from b hn w1 hx (neg_isF hy) (by omega) (by omega))
  clear h kb hn
  go_enter Try.func30, Try.ntmps30
  go_wp2_with fail
  refine (CV.out _ _ HR.out).mono ?_
  rintro e w1 ⟨rfl, hb2⟩
  have HW1 := Lib.hid (HW.out.trans ((HW2.out.trans (hb2.mono HW2.out.size)).mono HW.out.size))
  have HK := Lib.hid (two_keep ((HA.out.keep HW2.out).keep hb2) ((HB.out.keep HW2.out).keep hb2))
  have HZ : Hid (∀ W, Below w1.heap.size w1 W → BlkAt W (w.heap.size + 1) zeroB) := Lib.hid (fun W hW => ((HB.out.keep HW2.out).keep hb2).keep hW)
  clear hb2 a0 a1 a2 CV HR HW2 HA HB HW
  have CA1 := Lib.hid (CA.out w1)
  have HM1 := Lib.hid (HM.out w1)
  obtain ⟨a0, a1, a2, b0, b1, b2⟩ := HK.out w1 (Below.refl _ _)
  clear CA HM
  go_wp2_with fail
  go_region_law (go_simp; first | (go_at_call 23; with_reducible refine (CA1.out _ (by repeat (first | assumption | (with_reducible exact Below.refl _ _) | (with_reducible refine Below.drew ?_)))).mono ?_; rintro e w2 ⟨re, im, rfl, k1, k2, hb2⟩; have hk2 := HK.out w2 hb2; unfold TwoAt at hk2; obtain ⟨x0, x1, x2, y0, y1, y2⟩ := hk2) | (go_at_call 35; have CC := conj_c re im; with_reducible refine (CC _).mono ?_; rintro e w3 ⟨rfl, rfl⟩) | (go_at_call 37; have hmv := HM1.out _ _ k1 k2; with_reducible refine (hmv _ (by repeat (first | assumption | (with_reducible exact Below.refl _ _) | (with_reducible refine Below.drew ?_)))).mono ?_; rintro e w4 ⟨rfl, hb4⟩; have hz4 := HZ.out w4 hb4; have hk4 := HK.out w4 hb4; unfold TwoAt at hk4; obtain ⟨p0, p1, p2, q0, q1, q2⟩ := hk4; have f0 := hz4.frozen 0; have f1 := hz4.frozen 1; have f2 := hz4.frozen 2))
  all_goals
    have HB4 := Lib.hid (HW1.out.trans (hb4.mono HW1.out.size))
    have HZ4 := Lib.hid hz4
    clear hb4 hz4 HK HZ CA1 HM1
    go_wp2
    refine bodyPost_ret (results_cell_tmp rfl _ _ (w.heap.size + 1) 23 _ (0, 0) _ rfl (HZ4.out.set3 b.name b.x (-b.y)) Try.underlying23 rfl (by kernel_rfl)) rfl ?_
    exact ⟨rfl, below_set3 HB4.out (by omega) _ _ _⟩
set_option maxRecDepth 100000 in
set_option maxHeartbeats 4000000 in
theorem devMirrorBad_c {b : BlockD} (h : okB b = false) (w : World) : Calls Try.prog 30 #[BV b] w fun e w' => e = .returned (.tuple #[BV zeroB, .int .i64 19]) ∧ Below w.heap.size w w' := by
  obtain ⟨ha, hb, hw⟩ := two_new w b zeroB
  have HB := Lib.hid hb
  have HW := Lib.hid hw
  obtain ⟨a0, a1, a2⟩ := ha.cell
  clear ha hb hw
  have HR := Lib.hid (row2a w b (.cells #[Sv b.name, Iv b.x, Iv b.y] 23) (.cells #[Sv zeroB.name, Iv zeroB.x, Iv zeroB.y] 23))
  have HW2 := Lib.hid (below_newP ((w.alloc (.cells #[Sv b.name, Iv b.x, Iv b.y] 23)).alloc (.cells #[Sv zeroB.name, Iv zeroB.x, Iv zeroB.y] 23)) (.cells #[Sv b.name, Iv b.x, Iv b.y] 23))
  have CV := Lib.hid (valid1 b 1 false h)
  clear h
  go_enter Try.func30, Try.ntmps30
  go_wp2_with fail
  refine (CV.out _ _ HR.out).mono ?_
  rintro e w1 ⟨rfl, hb2⟩
  have HW1 := Lib.hid (HW.out.trans ((HW2.out.trans (hb2.mono HW2.out.size)).mono HW.out.size))
  have HZ4 := Lib.hid ((HB.out.keep HW2.out).keep hb2)
  obtain ⟨b0, b1, b2⟩ := HZ4.out.cell
  have f0 := HZ4.out.frozen 0
  have f1 := HZ4.out.frozen 1
  have f2 := HZ4.out.frozen 2
  clear hb2 a0 a1 a2 CV HR HW2 HB HW
  go_wp2
  refine bodyPost_ret (results_cell_tmp rfl _ _ (w.heap.size + 1) 23 _ (0, 0) _ rfl (HZ4.out.set3 [] 0 0) Try.underlying23 rfl (by kernel_rfl)) rfl ?_
  exact ⟨rfl, below_set3 HW1.out (by omega) _ _ _⟩
theorem devMirror : DevMirror := fun b w hn => by
  rcases h : okB b with _ | _
  · have e1 : mirR b = zeroB := by unfold mirR; rw [h]; rfl
    have e2 : oneE b = 19 := by unfold oneE; rw [h]; rfl
    rw [e1, e2]
    exact devMirrorBad_c h w
  · have e1 : mirR b = mirZ b := by unfold mirR; rw [h]; rfl
    have e2 : oneE b = 0 := by unfold oneE; rw [h]; rfl
    rw [e1, e2]
    exact devMirrorOk_c h hn w
theorem i64_and3 (n : Int) : bits .and .i64 n 3 = n % 4 := by
  have h3 : (BitVec.ofInt 64 3).toNat = 2 ^ 2 - 1 := by decide
  have key : (BitVec.ofInt 64 n &&& BitVec.ofInt 64 3).toNat = (n % ((2 ^ 64 : Nat) : Int)).toNat % 2 ^ 2 := by
    rw [BitVec.toNat_and, BitVec.toNat_ofInt, h3, Nat.and_two_pow_sub_one_eq_mod]
  show IntKind.i64.wrap ((BitVec.ofInt 64 n &&& BitVec.ofInt 64 3).toNat : Nat) = n % 4
  rw [key, IntKind.wrap_i64]
  omega
/-- A point times i. -/
theorem times_i {re im : Nat} {x y : Int} (hx : IsF re x) (hy : IsF im y) (bx : -9999 ≤ x ∧ x ≤ 9999) (bY : -9999 ≤ y ∧ y ≤ 9999) : ∃ p q, cMulBits re im 0 4607182418800017408 = some (p, q) ∧ IsF p (-y) ∧ IsF q x := by
  obtain ⟨p, q, e1, e2, e3⟩ := mul_cpx hx hy zero_isF one_isF 9999 (by decide) bx bY (by decide) (by decide)
  refine ⟨p, q, e1, ?_, ?_⟩
  · rw [show -y = x * 0 - y * 1 by omega]; exact e2
  · rw [show x * 1 + y * 0 = x by omega] at e3; exact e3
set_option maxRecDepth 100000 in
set_option maxHeartbeats 4000000 in
theorem devRotateBad_c {b : BlockD} (h : okB b = false) (n : Int) (w : World) : Calls Try.prog 21 #[BV b, .int .i64 n] w fun e w' => e = .returned (.tuple #[BV zeroB, .int .i64 19]) ∧ Below w.heap.size w w' := by
  obtain ⟨ha, hb, hw⟩ := two_new w b zeroB
  have HB := Lib.hid hb
  have HW := Lib.hid hw
  obtain ⟨a0, a1, a2⟩ := ha.cell
  clear ha hb hw
  have HR := Lib.hid (row2a w b (.cells #[Sv b.name, Iv b.x, Iv b.y] 23) (.cells #[Sv zeroB.name, Iv zeroB.x, Iv zeroB.y] 23))
  have HW2 := Lib.hid (below_newP ((w.alloc (.cells #[Sv b.name, Iv b.x, Iv b.y] 23)).alloc (.cells #[Sv zeroB.name, Iv zeroB.x, Iv zeroB.y] 23)) (.cells #[Sv b.name, Iv b.x, Iv b.y] 23))
  have CV := Lib.hid (valid1 b 1 false h)
  clear h
  go_enter Try.func21, Try.ntmps21
  go_wp2_with fail
  refine (CV.out _ _ HR.out).mono ?_
  rintro e w1 ⟨rfl, hb2⟩
  have HW1 := Lib.hid (HW.out.trans ((HW2.out.trans (hb2.mono HW2.out.size)).mono HW.out.size))
  have HZ4 := Lib.hid ((HB.out.keep HW2.out).keep hb2)
  obtain ⟨b0, b1, b2⟩ := HZ4.out.cell
  have f0 := HZ4.out.frozen 0
  have f1 := HZ4.out.frozen 1
  have f2 := HZ4.out.frozen 2
  clear hb2 a0 a1 a2 CV HR HW2 HB HW
  go_wp2
  refine bodyPost_ret (results_cell_tmp rfl _ _ (w.heap.size + 1) 23 _ (0, 0) _ rfl (HZ4.out.set3 [] 0 0) Try.underlying23 rfl (by kernel_rfl)) rfl ?_
  exact ⟨rfl, below_set3 HW1.out (by omega) _ _ _⟩
set_option maxRecDepth 100000 in
set_option maxHeartbeats 4000000 in
theorem devRotateOk_c {b : BlockD} (h : okB b = true) (hn : b.name.length ≤ 140737488355328) (n : Int) (w : World) : Calls Try.prog 21 #[BV b, .int .i64 n] w fun e w' => e = .returned (.tuple #[BV (rotZ b n), .int .i64 0]) ∧ Below w.heap.size w w' := by
  obtain ⟨ha, hb, hw⟩ := two_new w b zeroB
  have HA := Lib.hid ha
  have HB := Lib.hid hb
  have HW := Lib.hid hw
  obtain ⟨a0, a1, a2⟩ := ha.cell
  clear ha hb hw
  have HR := Lib.hid (row2a w b (.cells #[Sv b.name, Iv b.x, Iv b.y] 23) (.cells #[Sv zeroB.name, Iv zeroB.x, Iv zeroB.y] 23))
  have HW2 := Lib.hid (below_newP ((w.alloc (.cells #[Sv b.name, Iv b.x, Iv b.y] 23)).alloc (.cells #[Sv zeroB.name, Iv zeroB.x, Iv zeroB.y] 23)) (.cells #[Sv b.name, Iv b.x, Iv b.y] 23))
  have CV := Lib.hid (valid1 b 1 true h)
  have CA := Lib.hid (at_ok h)
  have hand := i64_and3 n
  obtain ⟨r, hr⟩ : ∃ r : Nat, (r : Int) = n % 4 := ⟨(n % 4).toNat, by omega⟩
  have hr4 : r < 4 := by omega
  rw [← hr] at hand
  have HE : Hid (rotZ b n = ⟨b.name, (rotN b r).x, (rotN b r).y⟩) := Lib.hid (by
    unfold rotZ
    rw [← hr, ← rotN_name b r]
    rfl)
  have HRB := Lib.hid (fun k => rot_bound h k)
  have HM := Lib.hid (fun (re im : Nat) (hx : IsF re (rotN b r).x) (hy : IsF im (rotN b r).y) => devMoved_c b hn hx hy (by have := rot_bound h r; omega) (by have := rot_bound h r; omega))
  rw [HE.out]
  clear h hn hr HE
  go_enter Try.func21, Try.ntmps21
  go_wp2_with fail
  refine (CV.out _ _ HR.out).mono ?_
  rintro e w1 ⟨rfl, hb2⟩
  have HW1 := Lib.hid (HW.out.trans ((HW2.out.trans (hb2.mono HW2.out.size)).mono HW.out.size))
  have HA1 := Lib.hid ((HA.out.keep HW2.out).keep hb2)
  have HZ1 := Lib.hid ((HB.out.keep HW2.out).keep hb2)
  clear hb2 a0 a1 a2 CV HR HW2 HB HW HA
  obtain ⟨a0, a1, a2⟩ := HA1.out.cell
  go_wp2_with fail
  refine (CA.out _).mono ?_
  rintro e w2 ⟨re0, im0, rfl, k1, k2, hb2⟩
  have HW2 := Lib.hid (HW1.out.trans (hb2.mono HW1.out.size))
  have HA2 := Lib.hid (HA1.out.keep hb2)
  have HZ2 := Lib.hid (HZ1.out.keep hb2)
  have K1 : Hid (IsF re0 (rotN b 0).x) := Lib.hid k1
  have K2 : Hid (IsF im0 (rotN b 0).y) := Lib.hid k2
  clear hb2 a0 a1 a2 CA HA1 HZ1 HW1 k1 k2
  go_wp2
  go_loopw [6, 16] (fun pv kv wr => ∃ (j re im : Nat), pv = .complex .f64 re im ∧ kv = .int .i64 j ∧ j ≤ r ∧ Hid (IsF re (rotN b j).x) ∧ Hid (IsF im (rotN b j).y) ∧ w2 = wr) (fun _ kv _ => r - (intOf kv).toNat)
  case atStart => exact ⟨0, re0, im0, rfl, rfl, Nat.zero_le _, K1, K2, rfl⟩
  case round =>
    clear K1 K2
    obtain ⟨j, re, im, rfl, rfl, hj, K1, K2, rfl⟩ := hrel
    by_cases hlt : j < r
    · have kb := HRB.out j
      obtain ⟨p, q, hm, q1, q2⟩ := times_i K1.out K2.out (by omega) (by omega)
      have hmul := fun (t : TypeId) (W : World) => run_complex_mul (P := Try.prog) W t re im 0 4607182418800017408 p q hm
      have Q1 : Hid (IsF p (rotN b (j + 1)).x) := Lib.hid q1
      have Q2 : Hid (IsF q (rotN b (j + 1)).y) := Lib.hid q2
      clear kb hm q1 q2 K1 K2
      go_wp2
      go_roundw
      case rel => exact ⟨j + 1, p, q, rfl, by go_num, by omega, Q1, Q2, trivial⟩
      case measure => simp [intOf]; omega
    · obtain rfl : j = r := by omega
      have CM := Lib.hid (HM.out re im K1.out K2.out)
      obtain ⟨a0, a1, a2⟩ := HA2.out.cell
      clear HM K1 K2
      go_wp2_with fail
      refine (CM.out _).mono ?_
      rintro e w4 ⟨rfl, hb4⟩
      have HB4 := Lib.hid (HW2.out.trans (hb4.mono HW2.out.size))
      have HZ4 := Lib.hid (HZ2.out.keep hb4)
      obtain ⟨b0, b1, b2⟩ := HZ4.out.cell
      have f0 := HZ4.out.frozen 0
      have f1 := HZ4.out.frozen 1
      have f2 := HZ4.out.frozen 2
      clear hb4 a0 a1 a2 HA2 HZ2 HW2 CM
      go_wp2
      refine bodyPost_ret (results_cell_tmp rfl _ _ (w.heap.size + 1) 23 _ (0, 0) _ rfl (HZ4.out.set3 b.name (rotN b j).x (rotN b j).y) Try.underlying23 rfl (by kernel_rfl)) rfl ?_
      exact ⟨rfl, below_set3 HB4.out (by omega) _ _ _⟩
theorem devRotate : DevRotate := fun b n w hn _ => by
  rcases h : okB b with _ | _
  · have e1 : rotR b n = zeroB := by unfold rotR; rw [h]; rfl
    have e2 : oneE b = 19 := by unfold oneE; rw [h]; rfl
    rw [e1, e2]
    exact devRotateBad_c h n w
  · have e1 : rotR b n = rotZ b n := by unfold rotR; rw [h]; rfl
    have e2 : oneE b = 0 := by unfold oneE; rw [h]; rfl
    rw [e1, e2]
    exact devRotateOk_c h hn n w
end Go.Proofs.Ytifnmfljlgaeoaa
