/- Areas as sums along a walk: another beginning, a cut, a corner twice, the way back, rotations. No program is named here. -/
import Derived.Test.YtifnmfljlgaeoaaPlSpec
namespace Go.Proofs.Ytifnmfljlgaeoaa

def chainZ : List BlockD → Int
  | a :: b :: l => crossZ a b + chainZ (b :: l)
  | _ => 0
def lastB (l : List BlockD) : BlockD := l.getLastD zeroB
def headB (l : List BlockD) : BlockD := l.headD zeroB
def polyZ (l : List BlockD) : Int := chainZ l + crossZ (lastB l) (headB l)
theorem chain_app : ∀ (a b : List BlockD), a ≠ [] → b ≠ [] → chainZ (a ++ b) = chainZ a + crossZ (lastB a) (headB b) + chainZ b
  | [], _, h, _ => absurd rfl h
  | [x], [], _, h => absurd rfl h
  | [x], y :: b, _, _ => by simp [chainZ, lastB, headB]
  | x :: z :: a, b, _, hb => by
    have ih := chain_app (z :: a) b (by simp) hb
    have hl : lastB (x :: z :: a) = lastB (z :: a) := by simp [lastB, List.getLastD]
    rw [List.cons_append, List.cons_append, chainZ, chainZ, hl, ← List.cons_append, ih]
    omega
theorem last_app (a b : List BlockD) (hb : b ≠ []) : lastB (a ++ b) = lastB b := by
  obtain ⟨c, x, rfl⟩ : ∃ c x, b = c ++ [x] := ⟨b.dropLast, b.getLast hb, (List.dropLast_concat_getLast hb).symm⟩
  simp [lastB, ← List.append_assoc]
theorem head_app (a b : List BlockD) (ha : a ≠ []) : headB (a ++ b) = headB a := by
  cases a with
  | nil => exact absurd rfl ha
  | cons x a => rfl
theorem poly_app (a b : List BlockD) (ha : a ≠ []) (hb : b ≠ []) : polyZ (a ++ b) = chainZ a + crossZ (lastB a) (headB b) + chainZ b + crossZ (lastB b) (headB a) := by
  unfold polyZ
  rw [chain_app a b ha hb, last_app a b hb, head_app a b ha]
theorem poly_swap (a b : List BlockD) : polyZ (b ++ a) = polyZ (a ++ b) := by
  by_cases ha : a = []
  · subst ha; simp
  · by_cases hb : b = []
    · subst hb; simp
    · rw [poly_app a b ha hb, poly_app b a hb ha]; omega
theorem poly_cut (a c : List BlockD) (p : BlockD) (ha : a ≠ []) : polyZ (a ++ p :: c) = polyZ (a ++ [p]) + polyZ (headB a :: p :: c) := by
  have h1 := poly_app a (p :: c) ha (by simp)
  have h2 := poly_app a [p] ha (by simp)
  have h3 := poly_app [headB a] (p :: c) (by simp) (by simp)
  rw [List.singleton_append] at h3
  have h4 := cross_anti p (headB a)
  have e1 : headB (p :: c) = p := rfl
  have e2 : headB [p] = p := rfl
  have e3 : lastB [p] = p := rfl
  have e4 : lastB [headB a] = headB a := rfl
  have e5 : headB [headB a] = headB a := rfl
  have e6 : chainZ [p] = 0 := rfl
  have e7 : chainZ [headB a] = 0 := rfl
  rw [e1] at h1 h3
  rw [e2, e3, e6] at h2
  rw [e4, e5, e7] at h3
  omega
theorem poly_twice (a c : List BlockD) (p : BlockD) : polyZ (a ++ p :: p :: c) = polyZ (a ++ p :: c) := by
  have hs := cross_self p
  have hc : ∀ c, chainZ (p :: p :: c) = chainZ (p :: c) := fun c => by rw [chainZ, hs]; omega
  have hl : ∀ c, lastB (p :: p :: c) = lastB (p :: c) := fun c => by simp [lastB, List.getLastD]
  by_cases ha : a = []
  · subst ha
    show chainZ (p :: p :: c) + crossZ (lastB (p :: p :: c)) p = chainZ (p :: c) + crossZ (lastB (p :: c)) p
    rw [hc, hl]
  · rw [poly_app a _ ha (by simp), poly_app a _ ha (by simp), hc, hl]
    rfl
theorem chain_rev : ∀ (l : List BlockD), chainZ l.reverse = -chainZ l
  | [] => rfl
  | [x] => rfl
  | x :: y :: l => by
    have ih := chain_rev (y :: l)
    have h := chain_app (y :: l).reverse [x] (by simp) (by simp)
    rw [List.reverse_cons, h, ih]
    have hl : lastB (y :: l).reverse = y := by simp [lastB]
    have e1 : headB [x] = x := rfl
    have e2 : chainZ [x] = 0 := rfl
    rw [hl, e1, e2]
    show -chainZ (y :: l) + crossZ y x + 0 = -(crossZ x y + chainZ (y :: l))
    have := cross_anti x y
    omega
theorem poly_rev (l : List BlockD) : polyZ l.reverse = -polyZ l := by
  unfold polyZ
  have h1 : lastB l.reverse = headB l := by cases l <;> simp [lastB, headB]
  have h2 : headB l.reverse = lastB l := by
    have := h1
    rcases List.eq_nil_or_concat l with rfl | ⟨c, x, rfl⟩
    · rfl
    · simp [lastB, headB]
  rw [chain_rev, h1, h2]
  have := cross_anti (headB l) (lastB l)
  omega
theorem chain_map {f : BlockD → BlockD} {s : Int} (h : ∀ a b, crossZ (f a) (f b) = s * crossZ a b) : ∀ l : List BlockD, chainZ (l.map f) = s * chainZ l
  | [] => by simp [chainZ]
  | [x] => by simp [chainZ]
  | x :: y :: l => by
    have ih := chain_map h (y :: l)
    rw [List.map_cons] at ih
    rw [List.map_cons, List.map_cons, chainZ, chainZ, h, ih]
    exact (Int.mul_add _ _ _).symm
theorem poly_map {f : BlockD → BlockD} {s : Int} (h : ∀ a b, crossZ (f a) (f b) = s * crossZ a b) (l : List BlockD) : polyZ (l.map f) = s * polyZ l := by
  by_cases hl : l = []
  · subst hl
    have : polyZ [] = 0 := by decide
    rw [List.map_nil, this]
    omega
  · unfold polyZ
    have h1 : headB (l.map f) = f (headB l) := by
      cases l with
      | nil => exact absurd rfl hl
      | cons x l => rfl
    have h2 : lastB (l.map f) = f (lastB l) := by
      obtain ⟨c, x, rfl⟩ : ∃ c x, l = c ++ [x] := ⟨l.dropLast, l.getLast hl, (List.dropLast_concat_getLast hl).symm⟩
      simp [lastB]
    rw [chain_map h, h1, h2, h]
    exact (Int.mul_add _ _ _).symm
/-- The sum over the places is the sum along the walk. -/
theorem areaK_take {l : List BlockD} : ∀ k, k < l.length → areaK l k = chainZ (l.take (k + 1))
  | 0, hk => by
    cases l with
    | nil => simp at hk
    | cons x l => simp [areaK, chainZ]
  | k + 1, hk => by
    rw [areaK_succ, areaK_take k (by omega), Nat.mod_eq_of_lt hk, atW_get (by omega), atW_get hk, List.take_succ_eq_append_getElem hk]
    have hne : l.take (k + 1) ≠ [] := List.ne_nil_of_length_pos (by rw [List.length_take]; omega)
    rw [chain_app _ _ hne (by simp)]
    have h1 : lastB (l.take (k + 1)) = l[k] := by
      rw [List.take_succ_eq_append_getElem (by omega), last_app _ _ (by simp)]
      rfl
    rw [h1]
    simp [headB, chainZ]
theorem areaK_all {l : List BlockD} : areaK l l.length = polyZ l := by
  rcases List.eq_nil_or_concat l with rfl | ⟨c, x, rfl⟩
  · decide
  · rw [List.concat_eq_append]
    have hl : (c ++ [x]).length = c.length + 1 := by simp
    conv => lhs; rw [hl]
    rw [areaK_succ, areaK_take _ (by omega), ← hl, List.take_length, hl, Nat.mod_self]
    unfold polyZ
    congr 2
    · rw [atW_get (by omega)]
      simp [lastB]
    · rw [atW_get (by omega)]
      cases c <;> simp [headB]
theorem areaZ_eq (l : List BlockD) : areaZ l = polyZ l := by
  unfold areaZ
  split
  · rename_i h
    match l, h with
    | [], _ => decide
    | [x], _ =>
      show (0 : Int) = 0 + crossZ x x
      rw [cross_self]
      rfl
    | [x, y], _ =>
      show (0 : Int) = crossZ x y + 0 + crossZ y x
      have := cross_anti x y
      omega
  · exact areaK_all
end Go.Proofs.Ytifnmfljlgaeoaa
