/- Turns, areas, rotations of blocks in whole numbers, and what the statements of layer 8 say of them. No program is named here. -/
import Derived.Test.YtifnmfljlgaeoaaNtMem
namespace Go.Proofs.Ytifnmfljlgaeoaa

def okB (b : BlockD) : Bool := decide (-9999 ≤ b.x ∧ b.x ≤ 9999 ∧ -9999 ≤ b.y ∧ b.y ≤ 9999)
theorem okB_iff {b : BlockD} : okB b = true ↔ -9999 ≤ b.x ∧ b.x ≤ 9999 ∧ -9999 ≤ b.y ∧ b.y ≤ 9999 := by unfold okB; exact decide_eq_true_iff
def turnOf (re im : Int) : Int := if 0 < im then 1 else if im < 0 then 2 else if 0 < re then 3 else if re < 0 then 4 else 0
def reZ (a b c : BlockD) : Int := (c.x - b.x) * (b.x - a.x) + (c.y - b.y) * (b.y - a.y)
def imZ (a b c : BlockD) : Int := (c.y - b.y) * (b.x - a.x) - (c.x - b.x) * (b.y - a.y)
def turnZ (a b c : BlockD) : Int := turnOf (reZ a b c) (imZ a b c)
def zeroB : BlockD := ⟨[], 0, 0⟩
def atW (l : List BlockD) (i : Nat) : BlockD := l.getD i zeroB
def turnsK (l : List BlockD) (k : Nat) : List Int := (List.range k).map fun i => turnZ (atW l i) (atW l (i + 1)) (atW l (i + 2))
def crossZ (p q : BlockD) : Int := p.x * q.y - p.y * q.x
def areaK (l : List BlockD) (k : Nat) : Int := ((List.range k).map fun i => crossZ (atW l i) (atW l ((i + 1) % l.length))).sum
def areaZ (l : List BlockD) : Int := if l.length < 3 then 0 else areaK l l.length
def squareZ (a b : BlockD) : Int := (b.x - a.x) * (b.x - a.x) + (b.y - a.y) * (b.y - a.y)
def rot1 (b : BlockD) : BlockD := ⟨b.name, -b.y, b.x⟩
def rotN (b : BlockD) : Nat → BlockD
  | 0 => b
  | k + 1 => rot1 (rotN b k)
def rotZ (b : BlockD) (q : Int) : BlockD := rotN b (q % 4).toNat
def mirZ (b : BlockD) : BlockD := ⟨b.name, b.x, -b.y⟩
theorem turnsK_succ (l : List BlockD) (k : Nat) : turnsK l (k + 1) = turnsK l k ++ [turnZ (atW l k) (atW l (k + 1)) (atW l (k + 2))] := by
  unfold turnsK; rw [List.range_succ, List.map_append]; rfl
theorem turnsK_len (l : List BlockD) (k : Nat) : (turnsK l k).length = k := by simp [turnsK]
theorem areaK_succ (l : List BlockD) (k : Nat) : areaK l (k + 1) = areaK l k + crossZ (atW l k) (atW l ((k + 1) % l.length)) := by
  unfold areaK
  rw [List.range_succ, List.map_append, List.sum_append]
  simp
theorem atW_get {l : List BlockD} {i : Nat} (h : i < l.length) : atW l i = l[i] := by unfold atW; rw [List.getD_eq_getElem?_getD, List.getElem?_eq_getElem h]; rfl
theorem mul_bound {a b A B : Int} (ha : -A ≤ a ∧ a ≤ A) (hb : -B ≤ b ∧ b ≤ B) : -(A * B) ≤ a * b ∧ a * b ≤ A * B := by
  have h1 : a.natAbs * b.natAbs ≤ A.natAbs * B.natAbs := Nat.mul_le_mul (by omega) (by omega)
  have h2 : (a * b).natAbs = a.natAbs * b.natAbs := Int.natAbs_mul a b
  have h3 : (A * B).natAbs = A.natAbs * B.natAbs := Int.natAbs_mul A B
  have h4 : 0 ≤ A * B := Int.mul_nonneg (by omega) (by omega)
  omega
theorem cross_bound {p q : BlockD} (hp : okB p = true) (hq : okB q = true) : -199960002 ≤ crossZ p q ∧ crossZ p q ≤ 199960002 := by
  have hp := okB_iff.1 hp
  have hq := okB_iff.1 hq
  have h1 := mul_bound (a := p.x) (b := q.y) (A := 9999) (B := 9999) (by omega) (by omega)
  have h2 := mul_bound (a := p.y) (b := q.x) (A := 9999) (B := 9999) (by omega) (by omega)
  unfold crossZ
  omega
theorem all_at {l : List BlockD} (h : ∀ b ∈ l, okB b = true) (i : Nat) : okB (atW l i) = true := by
  rcases Nat.lt_or_ge i l.length with hi | hi
  · rw [atW_get hi]; exact h _ (List.getElem_mem hi)
  · unfold atW
    rw [List.getD_eq_getElem?_getD, List.getElem?_eq_none hi]
    decide
theorem area_bound {l : List BlockD} (h : ∀ b ∈ l, okB b = true) : ∀ k : Nat, -(199960002 * (k : Int)) ≤ areaK l k ∧ areaK l k ≤ 199960002 * (k : Int)
  | 0 => by simp [areaK]
  | k + 1 => by
    have ih := area_bound h k
    have hc := cross_bound (all_at h k) (all_at h ((k + 1) % l.length))
    rw [areaK_succ]
    omega
/-! ### Rotations and mirrors -/
theorem turn_rot1 (a b c : BlockD) : turnZ (rot1 a) (rot1 b) (rot1 c) = turnZ a b c := by
  have h1 : reZ (rot1 a) (rot1 b) (rot1 c) = reZ a b c := by unfold reZ rot1; grind
  have h2 : imZ (rot1 a) (rot1 b) (rot1 c) = imZ a b c := by unfold imZ rot1; grind
  unfold turnZ
  rw [h1, h2]
theorem turn_rot (a b c : BlockD) : ∀ k, turnZ (rotN a k) (rotN b k) (rotN c k) = turnZ a b c
  | 0 => rfl
  | k + 1 => by rw [rotN, rotN, rotN, turn_rot1, turn_rot a b c k]
def swapT (t : Int) : Int := if t = 1 ∨ t = 2 then 3 - t else t
theorem turn_mir (a b c : BlockD) : turnZ (mirZ a) (mirZ b) (mirZ c) = swapT (turnZ a b c) := by
  have h1 : reZ (mirZ a) (mirZ b) (mirZ c) = reZ a b c := by unfold reZ mirZ; grind
  have h2 : imZ (mirZ a) (mirZ b) (mirZ c) = -imZ a b c := by unfold imZ mirZ; grind
  unfold turnZ turnOf swapT
  rw [h1, h2]
  generalize reZ a b c = re
  generalize imZ a b c = im
  split <;> split <;> (try split) <;> (try split) <;> (try split) <;> (try split) <;> (try split) <;> (try split) <;> (try split) <;> omega
theorem turn_back (a b c : BlockD) : turnZ c b a = swapT (turnZ a b c) := by
  have h1 : reZ c b a = reZ a b c := by unfold reZ; grind
  have h2 : imZ c b a = -imZ a b c := by unfold imZ; grind
  unfold turnZ turnOf swapT
  rw [h1, h2]
  generalize reZ a b c = re
  generalize imZ a b c = im
  split <;> split <;> (try split) <;> (try split) <;> (try split) <;> (try split) <;> (try split) <;> (try split) <;> (try split) <;> omega
theorem cross_rot1 (a b : BlockD) : crossZ (rot1 a) (rot1 b) = crossZ a b := by unfold crossZ rot1; grind
theorem cross_rot (a b : BlockD) : ∀ k, crossZ (rotN a k) (rotN b k) = crossZ a b
  | 0 => rfl
  | k + 1 => by rw [rotN, rotN, cross_rot1, cross_rot a b k]
theorem cross_mir (a b : BlockD) : crossZ (mirZ a) (mirZ b) = -crossZ a b := by unfold crossZ mirZ; grind
theorem cross_anti (a b : BlockD) : crossZ a b = -crossZ b a := by unfold crossZ; grind
theorem cross_self (a : BlockD) : crossZ a a = 0 := by unfold crossZ; grind
theorem square_rot1 (a b : BlockD) : squareZ (rot1 a) (rot1 b) = squareZ a b := by unfold squareZ rot1; grind
theorem square_rot (a b : BlockD) : ∀ k, squareZ (rotN a k) (rotN b k) = squareZ a b
  | 0 => rfl
  | k + 1 => by rw [rotN, rotN, square_rot1, square_rot a b k]
theorem rot4 (b : BlockD) : rotN b 4 = b := by simp [rotN, rot1]
theorem rotZ_four (b : BlockD) : rotZ b 4 = b := rfl
theorem rotZ_back (b : BlockD) : rotZ b (-3) = rotZ b 1 := rfl
theorem ok_rot1 {b : BlockD} (h : okB b = true) : okB (rot1 b) = true := by
  have h := okB_iff.1 h
  exact okB_iff.2 (by unfold rot1; simp only; omega)
theorem ok_rot {b : BlockD} (h : okB b = true) : ∀ k, okB (rotN b k) = true
  | 0 => h
  | k + 1 => ok_rot1 (ok_rot h k)
theorem ok_mir {b : BlockD} (h : okB b = true) : okB (mirZ b) = true := by
  have h := okB_iff.1 h
  exact okB_iff.2 (by unfold mirZ; simp only; omega)
end Go.Proofs.Ytifnmfljlgaeoaa
