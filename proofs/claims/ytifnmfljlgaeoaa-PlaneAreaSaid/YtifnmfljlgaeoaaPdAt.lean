/- Contracts of plane's At and conjugate. -/
import Derived.Test.YtifnmfljlgaeoaaPdValid
import Derived.Test.YtifnmfljlgaeoaaPlKnown
namespace Go.Proofs.Ytifnmfljlgaeoaa
open Go Go.RowKit Fl

theorem one_row (w : World) (b : BlockD) : Holds (w.alloc (.cells #[Sv b.name, Iv b.x, Iv b.y] 23)) (some ⟨w.heap.size, 0, none⟩) (blockCells [b]) := holds_blkP (heap_alloc_new w _) rfl
theorem row1 (w : World) (b : BlockD) (ob : Obj) : Holds ((w.alloc ob).alloc (.cells #[Sv b.name, Iv b.x, Iv b.y] 23)) (some ⟨w.heap.size + 1, 0, none⟩) (blockCells [b]) := by
  have h := one_row (w.alloc ob) b
  rwa [show (w.alloc ob).heap.size = w.heap.size + 1 by simp] at h
theorem valid1 (b : BlockD) (c : Nat) (z : Bool) (h : okB b = z) (A : Option Addr) (w : World) (hh : Holds w A (blockCells [b])) : Calls Try.prog 36 #[.slice A 1 c] w fun e w' => e = .returned (.bool z) ∧ Below w.heap.size w w' := by
  have h1 := devValid_c A c [b] w hh (by simp)
  have h2 : allB [b] = z := by unfold allB; simp [h]
  rw [h2] at h1
  exact h1
set_option maxRecDepth 100000 in
set_option maxHeartbeats 4000000 in
theorem devAt_k (b : BlockD) (w : World) : Calls Try.prog 23 #[BV b] w fun e w' => ∃ re im, e = .returned (.complex .f64 re im) ∧ IsF re (if okB b then b.x else 0) ∧ IsF im (if okB b then b.y else 0) ∧ Below w.heap.size w w' := by
  have hb := box_new w b
  have HB := Lib.hid hb
  have HW := Lib.hid (below_newP w (.cells #[Sv b.name, Iv b.x, Iv b.y] 23))
  obtain ⟨h0, hx, hy⟩ := hb.cell
  clear hb
  have HR := Lib.hid (row1 w b (.cells #[Sv b.name, Iv b.x, Iv b.y] 23))
  have HW2 := Lib.hid (below_newP (w.alloc (.cells #[Sv b.name, Iv b.x, Iv b.y] 23)) (.cells #[Sv b.name, Iv b.x, Iv b.y] 23))
  rcases hok : okB b with _ | _
  · have CV := Lib.hid (valid1 b 1 false hok)
    go_enter Try.func23, Try.ntmps23
    go_wp2_with fail
    refine (CV.out _ _ HR.out).mono ?_
    rintro e w2 ⟨rfl, hb2⟩
    have HB2 := Lib.hid (HW.out.trans ((HW2.out.trans (hb2.mono HW2.out.size)).mono HW.out.size))
    clear hb2 h0 hx hy CV HR HW2
    go_wp2
    go_ret
    exact ⟨0, 0, rfl, zero_isF, zero_isF, HB2.out⟩
  · have CV := Lib.hid (valid1 b 1 true hok)
    have kb := okB_iff.1 hok
    have HX : Hid (IsF (FloatKind.nearest .f64 b.x) b.x) := Lib.hid (nearest_c (by omega))
    have HY : Hid (IsF (FloatKind.nearest .f64 b.y) b.y) := Lib.hid (nearest_c (by omega))
    clear kb hok
    go_enter Try.func23, Try.ntmps23
    go_wp2_with fail
    refine (CV.out _ _ HR.out).mono ?_
    rintro e w2 ⟨rfl, hb2⟩
    have HB2 := Lib.hid (HW.out.trans ((HW2.out.trans (hb2.mono HW2.out.size)).mono HW.out.size))
    obtain ⟨_, hx2, hy2⟩ := ((HB.out.keep HW2.out).keep hb2).cell
    clear hb2 h0 hx hy CV HR HW2
    go_wp2
    go_ret
    exact ⟨_, _, rfl, HX.out, HY.out, HB2.out⟩
theorem at_ok {b : BlockD} (h : okB b = true) (w : World) : Calls Try.prog 23 #[BV b] w fun e w' => ∃ re im, e = .returned (.complex .f64 re im) ∧ IsF re b.x ∧ IsF im b.y ∧ Below w.heap.size w w' := by
  have h1 := devAt_k b w
  simp only [h, if_true] at h1
  exact h1
theorem devAt : DevAt := fun b w => (devAt_k b w).mono (fun e w' h => by
  obtain ⟨re, im, rfl, h1, h2, h3⟩ := h
  exact ⟨_, rfl, ⟨re, im, rfl, h1, h2⟩, h3⟩)
set_option maxRecDepth 100000 in
set_option maxHeartbeats 4000000 in
theorem conj_c (re im : Nat) (w : World) : Calls Try.prog 35 #[.complex .f64 re im] w fun e w' => e = .returned (.complex .f64 re (Op.negFloat .f64 im)) ∧ w' = w := by
  have hn : ∀ W : World, (Op.unary .neg (.float .f64 im)).run Try.prog W = .ok (.float .f64 (Op.negFloat .f64 im)) W := fun W => rfl
  go_enter Try.func35, Try.ntmps35
  go_wp2_with (simp only [hn])
  go_ret
  exact ⟨rfl, rfl⟩
/-- What one step is multiplied with the conjugate of another: product of (u + vi) and (x - yi). -/
theorem prodC {a b c d : Nat} {x y u v : Int} (ha : IsF a x) (hb : IsF b y) (hc : IsF c u) (hd : IsF d v) (hx : -19998 ≤ x ∧ x ≤ 19998) (hy : -19998 ≤ y ∧ y ≤ 19998) (hu : -19998 ≤ u ∧ u ≤ 19998) (hv : -19998 ≤ v ∧ v ≤ 19998) : ∃ re im, cMulBits c d a (Op.negFloat .f64 b) = some (re, im) ∧ IsF re (u * x + v * y) ∧ IsF im (v * x - u * y) := by
  obtain ⟨re, im, h1, h2, h3⟩ := mul_cpx hc hd ha (neg_isF hb) 19998 (by decide) hu hv hx (by omega)
  refine ⟨re, im, h1, ?_, ?_⟩
  · rw [show u * x + v * y = u * x - v * -y by rw [Int.mul_neg, Int.sub_neg]]; exact h2
  · rw [show v * x - u * y = u * -y + v * x by rw [Int.mul_neg]; omega]; exact h3
/-- (x - yi) times (u + vi). -/
theorem prodD {a b c d : Nat} {x y u v : Int} (ha : IsF a x) (hb : IsF b y) (hc : IsF c u) (hd : IsF d v) (hx : -19998 ≤ x ∧ x ≤ 19998) (hy : -19998 ≤ y ∧ y ≤ 19998) (hu : -19998 ≤ u ∧ u ≤ 19998) (hv : -19998 ≤ v ∧ v ≤ 19998) : ∃ re im, cMulBits a (Op.negFloat .f64 b) c d = some (re, im) ∧ IsF re (x * u + y * v) ∧ IsF im (x * v - y * u) := by
  obtain ⟨re, im, h1, h2, h3⟩ := mul_cpx ha (neg_isF hb) hc hd 19998 (by decide) hx (by omega) hu hv
  refine ⟨re, im, h1, ?_, ?_⟩
  · rw [show x * u + y * v = x * u - -y * v by rw [Int.neg_mul, Int.sub_neg]]; exact h2
  · rw [show x * v - y * u = x * v + -y * u by rw [Int.neg_mul]; omega]; exact h3
theorem order_f {a : Nat} {x : Int} (h : IsF a x) : FloatKind.f64.format.order a 0 = some (compare x 0) := order_zero h
set_option maxRecDepth 100000 in
set_option maxHeartbeats 4000000 in
theorem between_c {a b c d : Nat} {x y u v : Int} (ha : IsF a x) (hb : IsF b y) (hc : IsF c u) (hd : IsF d v) (hx : -19998 ≤ x ∧ x ≤ 19998) (hy : -19998 ≤ y ∧ y ≤ 19998) (hu : -19998 ≤ u ∧ u ≤ 19998) (hv : -19998 ≤ v ∧ v ≤ 19998) (w : World) :
    Calls Try.prog 33 #[.complex .f64 a b, .complex .f64 c d] w fun e w' => e = .returned (.int .i64 (turnOf (u * x + v * y) (v * x - u * y))) ∧ w' = w := by
  obtain ⟨re, im, hm, hre, him⟩ := prodC ha hb hc hd hx hy hu hv
  have hmul := fun (t : TypeId) (W : World) => run_complex_mul (P := Try.prog) W t c d a (Op.negFloat .f64 b) re im hm
  have o1 := order_f hre
  have o2 := order_f him
  have CC := Lib.hid (conj_c a b)
  clear ha hb hc hd hx hy hu hv hm hre him
  generalize u * x + v * y = r at *
  generalize v * x - u * y = i at *
  have hcase : (compare i 0 = .gt ∧ turnOf r i = 1) ∨ (compare i 0 = .lt ∧ turnOf r i = 2) ∨ (compare i 0 = .eq ∧ compare r 0 = .gt ∧ turnOf r i = 3) ∨ (compare i 0 = .eq ∧ compare r 0 = .lt ∧ turnOf r i = 4) ∨ (compare i 0 = .eq ∧ compare r 0 = .eq ∧ turnOf r i = 0) := by
    simp only [Int.compare_eq_gt, Int.compare_eq_lt, Int.compare_eq_eq]
    unfold turnOf
    rcases Int.lt_trichotomy i 0 with h | h | h
    · exact .inr (.inl ⟨h, by rw [if_neg (by omega), if_pos h]⟩)
    · rcases Int.lt_trichotomy r 0 with h2 | h2 | h2
      · exact .inr (.inr (.inr (.inl ⟨h, h2, by rw [if_neg (by omega), if_neg (by omega), if_neg (by omega), if_pos h2]⟩)))
      · exact .inr (.inr (.inr (.inr ⟨h, h2, by rw [if_neg (by omega), if_neg (by omega), if_neg (by omega), if_neg (by omega)]⟩)))
      · exact .inr (.inr (.inl ⟨h, h2, by rw [if_neg (by omega), if_neg (by omega), if_pos h2]⟩))
    · exact .inl ⟨h, by rw [if_pos h]⟩
  have hl : ∀ (t : TypeId) (p q : Nat) (W : World), (binOp .lss t (.float .f64 p) (.float .f64 q)).run Try.prog W = .ok (.bool (FloatKind.f64.format.order p q == some .lt)) W := fun t p q W => by simp [binOp, Op.floatCmp]
  have hg : ∀ (t : TypeId) (p q : Nat) (W : World), (binOp .gtr t (.float .f64 p) (.float .f64 q)).run Try.prog W = .ok (.bool (FloatKind.f64.format.order p q == some .gt)) W := fun t p q W => by simp [binOp, Op.floatCmp]
  rcases hcase with ⟨k1, k3⟩ | ⟨k1, k3⟩ | ⟨k1, k2, k3⟩ | ⟨k1, k2, k3⟩ | ⟨k1, k2, k3⟩
  iterate 2
    · rw [k1] at o2
      rw [k3]
      clear k1 k3
      have z0 : ((FloatKind.f64.format.order re 0 == some Ordering.eq) && (FloatKind.f64.format.order im 0 == some Ordering.eq)) = false := by rw [o2]; simp
      go_enter Try.func33, Try.ntmps33
      go_wp2_with fail
      refine (CC.out w).mono ?_
      rintro e w2 ⟨rfl, rfl⟩
      go_wp2
      all_goals (go_ret; exact ⟨rfl, rfl⟩)
  iterate 2
    · rw [k1] at o2
      rw [k2] at o1
      rw [k3]
      clear k1 k2 k3
      have z0 : ((FloatKind.f64.format.order re 0 == some Ordering.eq) && (FloatKind.f64.format.order im 0 == some Ordering.eq)) = false := by rw [o1]; simp
      go_enter Try.func33, Try.ntmps33
      go_wp2_with fail
      refine (CC.out w).mono ?_
      rintro e w2 ⟨rfl, rfl⟩
      go_wp2
      all_goals (go_ret; exact ⟨rfl, rfl⟩)
  · rw [k1] at o2
    rw [k2] at o1
    rw [k3]
    clear k1 k2 k3
    have z0 : ((FloatKind.f64.format.order re 0 == some Ordering.eq) && (FloatKind.f64.format.order im 0 == some Ordering.eq)) = true := by rw [o1, o2]; rfl
    clear hl hg o1 o2
    go_enter Try.func33, Try.ntmps33
    go_wp2_with fail
    refine (CC.out w).mono ?_
    rintro e w2 ⟨rfl, rfl⟩
    go_wp2
    all_goals (go_ret; exact ⟨rfl, rfl⟩)
end Go.Proofs.Ytifnmfljlgaeoaa
