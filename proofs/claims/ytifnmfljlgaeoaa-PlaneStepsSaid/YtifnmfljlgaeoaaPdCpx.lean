/- Complex numbers of whole parts: what the model's operations on them give. No function of the program is named here. -/
import Derived.Test.YtifnmfljlgaeoaaPlBase
import Derived.WalkLawsBesides
namespace Go.Proofs.Ytifnmfljlgaeoaa
open Go Go.RowKit Fl

theorem read_flip (b : Nat) : Op.negFloat .f64 b % 9223372036854775808 = b % 9223372036854775808 ∧ (Op.negFloat .f64 b / 9223372036854775808) % 2 = 1 - b / 9223372036854775808 % 2 := by
  have e : Op.negFloat .f64 b = b ^^^ 2 ^ 63 := rfl
  have e2 : 9223372036854775808 = 2 ^ 63 := by decide
  rw [e, e2, Nat.xor_mod_two_pow, Nat.xor_div_two_pow]
  refine ⟨by rw [Nat.mod_self, Nat.xor_zero], ?_⟩
  rw [Nat.div_self (by decide)]
  have h3 := Nat.xor_mod_two_pow (a := b / 2 ^ 63) (b := 1) (n := 1)
  rw [Nat.pow_one] at h3
  rw [h3]
  rcases Nat.mod_two_eq_zero_or_one (b / 2 ^ 63) with h | h
  · rw [h]; rfl
  · rw [h]; rfl
theorem neg_read (b : Nat) (s : Bool) (m : Nat) (p : Int) (h : Ieee.double.read b = .number s m p) : Ieee.double.read (Op.negFloat .f64 b) = .number (!s) m p := by
  have hs : Ieee.double.signWeight = 9223372036854775808 := by decide
  obtain ⟨h1, h2⟩ := read_flip b
  unfold Ieee.Format.read at h ⊢
  rw [hs] at h ⊢
  rw [h1, h2]
  have h3 : (1 - b / 9223372036854775808 % 2 == 1) = !(b / 9223372036854775808 % 2 == 1) := by
    rcases Nat.mod_two_eq_zero_or_one (b / 9223372036854775808) with h | h <;> rw [h] <;> rfl
  rw [h3]
  simp only at h ⊢
  split
  · rename_i hc
    rw [if_pos hc] at h
    injection h with e1 e2 e3
    rw [e1, e2, e3]
  · rename_i hc
    rw [if_neg hc] at h
    split
    · rename_i hc2
      rw [if_pos hc2] at h
      injection h with e1 e2 e3
      rw [e1, e2, e3]
    · rename_i hc2
      rw [if_neg hc2] at h
      split at h <;> cases h
theorem neg_isF {b : Nat} {x : Int} (h : IsF b x) : IsF (Op.negFloat .f64 b) (-x) := by
  obtain ⟨s, m, k, e, h⟩ := h
  refine ⟨!s, m, k, neg_read b s m _ e, ?_⟩
  rw [Int.neg_mul, ← h]
  unfold valN
  cases s <;> simp
theorem sub_cpx {a b c d : Nat} {x y u v : Int} (ha : IsF a x) (hb : IsF b y) (hc : IsF c u) (hd : IsF d v) (h1 : (x - u).natAbs < 9007199254740992) (h2 : (y - v).natAbs < 9007199254740992) : ∃ re im, cSumBits .sub .f64 a b c d = some (re, im) ∧ IsF re (x - u) ∧ IsF im (y - v) := by
  obtain ⟨r, e1, k1⟩ := sub_isF ha hc h1
  obtain ⟨i, e2, k2⟩ := sub_isF hb hd h2
  refine ⟨r, i, ?_, k1, k2⟩
  have f1 : floatBits .sub .f64 a c = some r := e1
  have f2 : floatBits .sub .f64 b d = some i := e2
  unfold cSumBits
  rw [f1, f2]
  rfl
theorem mul_cpx {a b c d : Nat} {x y u v : Int} (ha : IsF a x) (hb : IsF b y) (hc : IsF c u) (hd : IsF d v) (B : Int) (hB : 2 * (B * B) < 9007199254740992) (hx : -B ≤ x ∧ x ≤ B) (hy : -B ≤ y ∧ y ≤ B) (hu : -B ≤ u ∧ u ≤ B) (hv : -B ≤ v ∧ v ≤ B) : ∃ re im, cMulBits a b c d = some (re, im) ∧ IsF re (x * u - y * v) ∧ IsF im (x * v + y * u) := by
  have m1 := mul_bound hx hu
  have m2 := mul_bound hy hv
  have m3 := mul_bound hx hv
  have m4 := mul_bound hy hu
  generalize B * B = BB at *
  obtain ⟨ac, e1, k1⟩ := mul_isF ha hc (by omega)
  obtain ⟨bd, e2, k2⟩ := mul_isF hb hd (by omega)
  obtain ⟨re, e3, k3⟩ := sub_isF k1 k2 (by omega)
  obtain ⟨ad, e4, k4⟩ := mul_isF ha hd (by omega)
  obtain ⟨bc, e5, k5⟩ := mul_isF hb hc (by omega)
  obtain ⟨im, e6, k6⟩ := add_isF k4 k5 (by omega)
  refine ⟨re, im, ?_, k3, k6⟩
  have f1 : floatBits .mul .f64 a c = some ac := e1
  have f2 : floatBits .mul .f64 b d = some bd := e2
  have f3 : floatBits .sub .f64 ac bd = some re := e3
  have f4 : floatBits .mul .f64 a d = some ad := e4
  have f5 : floatBits .mul .f64 b c = some bc := e5
  have f6 : floatBits .add .f64 ad bc = some im := e6
  unfold cMulBits
  simp only [f1, f2, f3, f4, f5, f6, Option.bind_some]
theorem toInt_val {a : Nat} {x : Int} (h : IsF a x) (hx : -1000000000000 ≤ x ∧ x ≤ 1000000000000) : floatToIntVal .f64 a .i64 = some x := by
  have e1 : IntKind.i64.min = -9223372036854775808 := by decide
  have e2 : IntKind.i64.max = 9223372036854775807 := by decide
  unfold floatToIntVal
  rw [toInt_isF h]
  simp only
  rw [if_pos (by rw [e1, e2]; omega)]
theorem order_zero {a : Nat} {x : Int} (h : IsF a x) : Ieee.double.order a 0 = some (compare x 0) := order_isF h zero_isF
theorem add_c {a b : Nat} {x y : Int} (h1 : IsF a x) (h2 : IsF b y) (h : (x + y).natAbs < 9007199254740992) : ∃ c, floatBits .add .f64 a b = some c ∧ IsF c (x + y) := add_isF h1 h2 h
theorem nearest_c {x : Int} (h : -1000000000000 ≤ x ∧ x ≤ 1000000000000) : IsF (FloatKind.nearest .f64 x) x := nearest_isF (by omega)
theorem one_isF : IsF 4607182418800017408 1 := ⟨false, 4503599627370496, 52, by decide, by decide⟩
end Go.Proofs.Ytifnmfljlgaeoaa
