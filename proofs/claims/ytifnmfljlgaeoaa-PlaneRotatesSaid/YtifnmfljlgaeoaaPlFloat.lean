/- Floats that stand for whole numbers: sums, differences, products, comparisons and conversions are exact below 2 ^ 53. No program is named here. -/
import GoSem.Core.Float
namespace Go.Proofs.Ytifnmfljlgaeoaa.Fl
open Ieee

theorem p53_eq : 9007199254740992 = 2 ^ 53 := by decide
theorem p52_eq : 4503599627370496 = 2 ^ 52 := by decide
def valN (s : Bool) (m : Nat) : Int := if s then -(m : Int) else m
/-- The datum stands for a whole number; its last place is not above the units. -/
def DatF (d : Datum) (v : Int) : Prop := ∃ s m k, d = .number s m (-(k : Nat) : Int) ∧ valN s m = v * (2 : Int) ^ k
/-- The word stands for a whole number. -/
def IsF (w : Nat) (v : Int) : Prop := DatF (double.read w) v
theorem valN_abs (s : Bool) (m : Nat) : (valN s m).natAbs = m := by
  unfold valN
  split <;> simp
theorem two_pos (k : Nat) : 0 < 2 ^ k := Nat.pow_pos (by decide)
theorem pow_cast (k : Nat) : ((2 ^ k : Nat) : Int) = (2 : Int) ^ k := by simp
theorem log_shift {a k : Nat} (ha : a ≠ 0) : (a * 2 ^ k).log2 = a.log2 + k := by
  have h1 := Nat.log2_self_le ha
  have h2 := (Nat.log2_lt ha (k := a.log2 + 1)).1 (Nat.lt_succ_self _)
  have hne : a * 2 ^ k ≠ 0 := Nat.mul_ne_zero ha (Nat.ne_of_gt (two_pos k))
  have h3 : a.log2 + k ≤ (a * 2 ^ k).log2 := (Nat.le_log2 hne).2 (by rw [Nat.pow_add]; exact Nat.mul_le_mul_right _ h1)
  have h4 : (a * 2 ^ k).log2 < a.log2 + k + 1 := (Nat.log2_lt hne).2 (by
    rw [show a.log2 + k + 1 = (a.log2 + 1) + k by omega, Nat.pow_add]
    exact Nat.mul_lt_mul_of_pos_right h2 (two_pos k))
  omega
/-- Nothing is cut off where only zeros are dropped. -/
theorem cut_exact (way : Toward) (neg : Bool) (a k : Nat) : way.cut neg (a * 2 ^ k) k = a := by
  unfold Toward.cut
  rcases Nat.eq_zero_or_pos a with h | h
  · subst h
    simp only [Nat.zero_mul, Nat.zero_div, Nat.zero_mod]
    cases way <;> simp [Nat.one_shiftLeft]
  · have hl := log_shift (k := k) (Nat.ne_of_gt h)
    have hmin : min k ((a * 2 ^ k).log2 + 2) = k := by omega
    have hp := two_pos k
    have h2 : (2 ^ k == 2 * 0) = false := by rw [beq_eq_false_iff_ne]; omega
    simp only [hmin, Nat.one_shiftLeft, Nat.mul_mod_left, Nat.mul_div_cancel _ hp]
    cases way <;> simp [h2]
/-- What is written of a whole number below 2 ^ 53, given by any digits, reads as it. -/
theorem read_word {neg : Bool} {rung d r : Nat} (h1 : rung = (1075 - d) * 4503599627370496 + r) (hd : d ≤ 52) (hr : r < 4503599627370496) : double.read (double.word neg rung) = .number neg (4503599627370496 + r) (-(d : Int)) := by
  have hs : double.signWeight = 9223372036854775808 := by decide
  have hb : double.binade = 4503599627370496 := by decide
  have hi : double.infRung = 2047 * 4503599627370496 := by decide
  have hl : double.leastPlace = -1074 := by decide
  have hlt : rung < 9223372036854775808 := by rw [h1]; omega
  have hmod : rung % 4503599627370496 = r := by rw [h1, Nat.mul_comm, Nat.mul_add_mod]; exact Nat.mod_eq_of_lt hr
  have hdiv : rung / 4503599627370496 = 1075 - d := by
    rw [h1, Nat.mul_comm, Nat.mul_add_div (by decide), Nat.div_eq_of_lt hr, Nat.add_zero]
  have hg : ¬ rung < 4503599627370496 := by rw [h1]; omega
  have hi2 : rung < 2047 * 4503599627370496 := by rw [h1]; omega
  have hneg : (double.word neg rung / 9223372036854775808 % 2 == 1) = neg ∧ double.word neg rung % 9223372036854775808 = rung := by
    unfold Format.word
    rw [hs]
    cases neg
    · simp only [Bool.false_eq_true, if_false]
      rw [Nat.div_eq_of_lt hlt, Nat.mod_eq_of_lt hlt]
      simp
    · simp only [if_true]
      rw [Nat.add_div_left _ (by decide), Nat.div_eq_of_lt hlt, Nat.add_mod_left, Nat.mod_eq_of_lt hlt]
      simp
  unfold Format.read
  rw [hs, hneg.1, hneg.2, hb, hi, if_neg hg, if_pos hi2, hl, hmod, hdiv]
  congr 1
  omega
theorem read_zero (neg : Bool) : double.read (double.word neg 0) = .number neg 0 (-1074) := by cases neg <;> decide
theorem rung_eq (P d r : Nat) (hd : d ≤ 52) (hr : r < P) : min ((1074 - d) * P + (P + r)) (2047 * P) = (1075 - d) * P + r := by
  obtain ⟨q, hq⟩ : ∃ q, 1074 - d = q := ⟨_, rfl⟩
  rw [hq, show 1075 - d = q + 1 by omega, Nat.add_mul, Nat.one_mul]
  have h2 : (q + 2) * P ≤ 2047 * P := Nat.mul_le_mul_right _ (by omega)
  rw [Nat.add_mul] at h2
  omega
theorem nearest_exact (neg : Bool) (a k : Nat) (ha : a < 9007199254740992) : ∃ d : Nat, double.read (double.nearest neg (a * 2 ^ k) (-(k : Int))) = .number neg (a * 2 ^ d) (-(d : Int)) := by
  rcases Nat.eq_zero_or_pos a with h0 | h0
  · subst h0
    obtain ⟨d, hd⟩ : ∃ d : Nat, (d : Int) = 1074 := ⟨1074, rfl⟩
    refine ⟨d, ?_⟩
    rw [Nat.zero_mul, Nat.zero_mul, hd]
    unfold Format.nearest
    rw [if_pos rfl]
    exact read_zero neg
  · have hne : a ≠ 0 := Nat.ne_of_gt h0
    have hl := log_shift (k := k) hne
    have hpk := two_pos k
    have hL : a.log2 ≤ 52 := by
      have := (Nat.log2_lt hne (k := 53)).2 (by rw [← p53_eq]; exact ha)
      omega
    obtain ⟨d, hd⟩ : ∃ d, d = 52 - a.log2 := ⟨_, rfl⟩
    refine ⟨d, ?_⟩
    have hlast : max (-(k : Int) + ((a * 2 ^ k).log2 : Int) - (double.fractionBits : Int)) double.leastPlace = -(d : Int) := by
      have hf : (double.fractionBits : Int) = 52 := by decide
      have hp : double.leastPlace = -1074 := by decide
      rw [hf, hp, hl]
      omega
    have hkept : Toward.even.cut neg ((a * 2 ^ k) <<< (-(k : Int) - -(d : Int)).toNat) (-(d : Int) - -(k : Int)).toNat = a * 2 ^ d := by
      rw [Nat.shiftLeft_eq]
      rcases Nat.le_total k d with h | h
      · rw [show (-(k : Int) - -(d : Int)).toNat = d - k by omega, show (-(d : Int) - -(k : Int)).toNat = 0 by omega]
        have e : a * 2 ^ k * 2 ^ (d - k) = a * 2 ^ d := by rw [Nat.mul_assoc, ← Nat.pow_add, show k + (d - k) = d by omega]
        rw [e]
        have := cut_exact .even neg (a * 2 ^ d) 0
        rwa [Nat.pow_zero, Nat.mul_one] at this
      · rw [show (-(k : Int) - -(d : Int)).toNat = 0 by omega, show (-(d : Int) - -(k : Int)).toNat = k - d by omega, Nat.pow_zero, Nat.mul_one]
        have e : a * 2 ^ k = (a * 2 ^ d) * 2 ^ (k - d) := by rw [Nat.mul_assoc, ← Nat.pow_add, show d + (k - d) = k by omega]
        rw [e]
        exact cut_exact .even neg _ _
    have hlow : 4503599627370496 ≤ a * 2 ^ d ∧ a * 2 ^ d < 2 * 4503599627370496 := by
      have h1 := Nat.log2_self_le hne
      have h2 := (Nat.log2_lt hne (k := a.log2 + 1)).1 (Nat.lt_succ_self _)
      have hpd := two_pos d
      have e1 : 2 ^ a.log2 * 2 ^ d = 4503599627370496 := by rw [← Nat.pow_add, show a.log2 + d = 52 by omega]
      have e2 : 2 ^ (a.log2 + 1) * 2 ^ d = 2 * 4503599627370496 := by rw [Nat.pow_succ, Nat.mul_comm (2 ^ a.log2) 2, Nat.mul_assoc, e1]
      constructor
      · rw [← e1]; exact Nat.mul_le_mul_right _ h1
      · rw [← e2]; exact Nat.mul_lt_mul_of_pos_right h2 hpd
    obtain ⟨r, hr⟩ : ∃ r, a * 2 ^ d = 4503599627370496 + r := ⟨a * 2 ^ d - 4503599627370496, by omega⟩
    have hr2 : r < 4503599627370496 := by omega
    have hd52 : d ≤ 52 := by omega
    unfold Format.nearest
    rw [if_neg (Nat.mul_ne_zero hne (Nat.ne_of_gt hpk))]
    simp only [hlast]
    rw [hkept, hr]
    have hb : double.binade = 4503599627370496 := by decide
    have hi : double.infRung = 2047 * 4503599627370496 := by decide
    have hp : double.leastPlace = -1074 := by decide
    rw [hb, hi, hp, show (-(d : Int) - -1074).toNat = 1074 - d by omega]
    have hrung := rung_eq 4503599627370496 d r hd52 hr2
    rw [hrung]
    exact read_word rfl hd52 hr2
theorem valN_mul (s : Bool) (m k : Nat) : valN s (m * 2 ^ k) = valN s m * (2 : Int) ^ k := by
  unfold valN
  split
  · rw [Int.natCast_mul, pow_cast, Int.neg_mul]
  · rw [Int.natCast_mul, pow_cast]
theorem valN_sign {s : Bool} {m : Nat} {v : Int} (h : valN s m = v) : m = v.natAbs := by rw [← h, valN_abs]
/-- What is written of a datum that stands for a whole number below 2 ^ 53. -/
theorem write_isF {d : Datum} {v : Int} (h : DatF d v) (hv : v.natAbs < 9007199254740992) : IsF (double.write d) v := by
  obtain ⟨s, m, k, rfl, hm⟩ := h
  have hmk : m = v.natAbs * 2 ^ k := by
    have h1 := congrArg Int.natAbs hm
    rw [valN_abs, Int.natAbs_mul] at h1
    rw [h1]
    rw [← pow_cast]
    rfl
  subst hmk
  obtain ⟨d, hd⟩ := nearest_exact s v.natAbs k hv
  refine ⟨s, v.natAbs * 2 ^ d, d, hd, ?_⟩
  rw [valN_mul] at hm ⊢
  have hp : (2 : Int) ^ k ≠ 0 := by rw [← pow_cast]; have := two_pos k; omega
  rw [Int.eq_of_mul_eq_mul_right hp hm]
theorem nearest_isF {v : Int} (hv : v.natAbs < 9007199254740992) : IsF (FloatKind.nearest .f64 v) v := by
  unfold FloatKind.nearest
  refine write_isF ⟨decide (v < 0), v.natAbs, 0, rfl, ?_⟩ hv
  unfold valN
  by_cases h : v < 0
  · simp [h]; omega
  · simp [h]; omega
theorem signed_eq (s : Bool) (m n : Nat) : signed s m n = valN s m * (2 : Int) ^ n := by
  unfold signed valN
  rw [Nat.shiftLeft_eq]
  split
  · rw [Int.natCast_mul, pow_cast, Int.neg_mul]
  · rw [Int.natCast_mul, pow_cast]
theorem mul_pow_add (v : Int) (a b : Nat) : v * (2 : Int) ^ a * (2 : Int) ^ b = v * (2 : Int) ^ (a + b) := by rw [Int.mul_assoc, ← Int.pow_add]
/-- Two data over one base. -/
theorem sum_total {s t : Bool} {m n i j : Nat} {x y : Int} (h1 : valN s m = x * (2 : Int) ^ i) (h2 : valN t n = y * (2 : Int) ^ j) :
    signed s m (-(i : Int) - min (-(i : Int)) (-(j : Int))).toNat = x * (2 : Int) ^ (max i j) ∧ signed t n (-(j : Int) - min (-(i : Int)) (-(j : Int))).toNat = y * (2 : Int) ^ (max i j) ∧ min (-(i : Int)) (-(j : Int)) = -((max i j : Nat) : Int) := by
  have hb : min (-(i : Int)) (-(j : Int)) = -((max i j : Nat) : Int) := by omega
  rw [hb]
  refine ⟨?_, ?_, rfl⟩
  · rw [signed_eq, h1, mul_pow_add]
    congr 2
    omega
  · rw [signed_eq, h2, mul_pow_add]
    congr 2
    omega
theorem sum_datF {a b : Datum} {x y : Int} (h1 : DatF a x) (h2 : DatF b y) : ∃ c, a.sum b = some c ∧ DatF c (x + y) := by
  obtain ⟨s, m, i, rfl, h1⟩ := h1
  obtain ⟨t, n, j, rfl, h2⟩ := h2
  obtain ⟨e1, e2, e3⟩ := sum_total h1 h2
  unfold Datum.sum
  simp only [e1, e2]
  refine ⟨_, rfl, _, _, max i j, by rw [e3], ?_⟩
  have ht : x * (2 : Int) ^ (max i j) + y * (2 : Int) ^ (max i j) = (x + y) * (2 : Int) ^ (max i j) := (Int.add_mul _ _ _).symm
  rw [ht]
  generalize (x + y) * (2 : Int) ^ (max i j) = z
  unfold valN
  by_cases h0 : z = 0
  · subst h0
    simp
  · rw [if_neg h0]
    by_cases h : z < 0
    · simp [h]; omega
    · simp [h]; omega
theorem product_datF {a b : Datum} {x y : Int} (h1 : DatF a x) (h2 : DatF b y) : ∃ c, a.product b = some c ∧ DatF c (x * y) := by
  obtain ⟨s, m, i, rfl, h1⟩ := h1
  obtain ⟨t, n, j, rfl, h2⟩ := h2
  refine ⟨_, rfl, s ^^ t, m * n, i + j, by congr 1; omega, ?_⟩
  have e : valN (s ^^ t) (m * n) = valN s m * valN t n := by
    unfold valN
    cases s <;> cases t <;> simp [Int.natCast_mul, Int.neg_mul, Int.mul_neg]
  rw [e, h1, h2, Int.pow_add]
  rw [Int.mul_assoc, Int.mul_assoc, Int.mul_left_comm ((2 : Int) ^ i) y]
theorem opposite_datF {a : Datum} {x : Int} (h : DatF a x) : DatF a.opposite (-x) := by
  obtain ⟨s, m, k, rfl, h⟩ := h
  refine ⟨!s, m, k, rfl, ?_⟩
  rw [Int.neg_mul, ← h]
  unfold valN
  cases s <;> simp
theorem add_isF {a b : Nat} {x y : Int} (h1 : IsF a x) (h2 : IsF b y) (h : (x + y).natAbs < 9007199254740992) : ∃ c, double.add a b = some c ∧ IsF c (x + y) := by
  obtain ⟨c, e, hc⟩ := sum_datF h1 h2
  exact ⟨_, by unfold Format.add; rw [e]; rfl, write_isF hc h⟩
theorem sub_isF {a b : Nat} {x y : Int} (h1 : IsF a x) (h2 : IsF b y) (h : (x - y).natAbs < 9007199254740992) : ∃ c, double.sub a b = some c ∧ IsF c (x - y) := by
  obtain ⟨c, e, hc⟩ := sum_datF h1 (opposite_datF h2)
  rw [← Int.sub_eq_add_neg] at hc
  exact ⟨_, by unfold Format.sub; rw [e]; rfl, write_isF hc h⟩
theorem mul_isF {a b : Nat} {x y : Int} (h1 : IsF a x) (h2 : IsF b y) (h : (x * y).natAbs < 9007199254740992) : ∃ c, double.mul a b = some c ∧ IsF c (x * y) := by
  obtain ⟨c, e, hc⟩ := product_datF h1 h2
  exact ⟨_, by unfold Format.mul; rw [e]; rfl, write_isF hc h⟩
theorem order_isF {a b : Nat} {x y : Int} (h1 : IsF a x) (h2 : IsF b y) : double.order a b = some (compare x y) := by
  obtain ⟨s, m, i, e1, h1⟩ := h1
  obtain ⟨t, n, j, e2, h2⟩ := h2
  obtain ⟨k1, k2, k3⟩ := sum_total h1 h2
  unfold Format.order
  rw [e1, e2]
  unfold Datum.order
  simp only [k1, k2]
  congr 1
  have hp : (0 : Int) < (2 : Int) ^ (max i j) := by rw [← pow_cast]; have := two_pos (max i j); omega
  rcases Int.lt_trichotomy x y with h | h | h
  · rw [Int.compare_eq_lt.2 h, Int.compare_eq_lt.2 (Int.mul_lt_mul_of_pos_right h hp)]
  · subst h
    rw [Int.compare_eq_eq.2 rfl, Int.compare_eq_eq.2 rfl]
  · rw [Int.compare_eq_gt.2 h, Int.compare_eq_gt.2 (Int.mul_lt_mul_of_pos_right h hp)]
theorem toInt_isF {a : Nat} {x : Int} (h : IsF a x) : (FloatKind.decode .f64 a).toInt .zero = some x := by
  obtain ⟨s, m, k, e, h⟩ := h
  have e' : FloatKind.decode .f64 a = .number s m (-(k : Int)) := e
  have hm : m = x.natAbs * 2 ^ k := by
    have h1 := congrArg Int.natAbs h
    rw [valN_abs, Int.natAbs_mul] at h1
    rw [h1]
    rw [← pow_cast]
    rfl
  rw [e']
  unfold Datum.toInt Datum.integral
  simp only
  rw [show (-(k : Int)).toNat = 0 by omega, show (- -(k : Int)).toNat = k by omega, Nat.shiftLeft_zero, hm, cut_exact, signed_eq, Int.pow_zero, Int.mul_one]
  subst hm
  rw [valN_mul] at h
  have hp : (2 : Int) ^ k ≠ 0 := by rw [← pow_cast]; have := two_pos k; omega
  rw [Int.eq_of_mul_eq_mul_right hp h]
theorem zero_isF : IsF 0 0 := by
  obtain ⟨d, hd⟩ : ∃ d : Nat, (d : Int) = 1074 := ⟨1074, rfl⟩
  exact ⟨false, 0, d, by rw [hd]; exact read_zero false, by rw [Int.zero_mul]; rfl⟩
end Go.Proofs.Ytifnmfljlgaeoaa.Fl
