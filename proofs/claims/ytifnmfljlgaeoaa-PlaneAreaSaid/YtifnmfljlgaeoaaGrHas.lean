/- Contracts of the reference's Has and Insert of layer 3: membership; a new ascending list with one number more. -/
import Derived.Test.YtifnmfljlgaeoaaGrApp
namespace Go.Proofs.Ytifnmfljlgaeoaa
open Go Go.RowKit Fl

/-- A list with x put before its k-th element on. -/
theorem insL_before {l : List Int} {x : Int} {k : Nat} (h : k < l.length) (hb : ∀ y ∈ l.take k, y ≤ x) (hx : x < l[k]) : insL l x = l.take k ++ x :: l.drop k := by
  induction l generalizing k with
  | nil => simp at h
  | cons y l ih =>
    cases k with
    | zero =>
      have hx' : x < y := by simpa using hx
      rw [insL, if_pos hx']; rfl
    | succ k =>
      have hy : y ≤ x := hb y (by simp)
      rw [insL, if_neg (by omega), ih (by simpa using h) (fun z hz => hb z (by simp [hz])) (by simpa using hx)]
      rfl
theorem insL_end {l : List Int} {x : Int} (hb : ∀ y ∈ l, y ≤ x) : insL l x = l ++ [x] := by
  induction l with
  | nil => rfl
  | cons y l ih =>
    have hy : y ≤ x := hb y (by simp)
    rw [insL, if_neg (by omega), ih (fun z hz => hb z (by simp [hz]))]
    rfl
/-- What Insert has made of the first k elements. -/
def InsRel (l : List Int) (x : Int) (k : Nat) (done : Bool) (out : List Int) : Prop :=
  (done = false ∧ out = l.take k ∧ ∀ y ∈ l.take k, y ≤ x) ∨ (done = true ∧ ∃ j, j < k ∧ ∃ h : j < l.length, x < l[j] ∧ (∀ y ∈ l.take j, y ≤ x) ∧ out = l.take j ++ x :: (l.take k).drop j)
theorem InsRel.length {l : List Int} {x : Int} {k : Nat} {d : Bool} {out : List Int} (h : InsRel l x k d out) : out.length ≤ k + 1 := by
  rcases h with ⟨_, rfl, _⟩ | ⟨_, j, hj, h1, _, _, rfl⟩
  · rw [List.length_take]; omega
  · simp; omega
theorem InsRel.put {l : List Int} {x : Int} {k : Nat} {out : List Int} (h : InsRel l x k false out) (hk : k < l.length) (hx : x < l[k]) : InsRel l x (k + 1) true ((out ++ [x]) ++ [l[k]]) := by
  rcases h with ⟨_, rfl, hb⟩ | ⟨h, _⟩
  · refine .inr ⟨rfl, k, by omega, hk, hx, hb, ?_⟩
    rw [List.take_succ_eq_append_getElem hk, List.drop_append, List.drop_of_length_le (by rw [List.length_take]; omega)]
    have : k - (l.take k).length = 0 := by rw [List.length_take]; omega
    rw [this]; simp
  · cases h
theorem InsRel.go {l : List Int} {x : Int} {k : Nat} {d : Bool} {out : List Int} (h : InsRel l x k d out) (hk : k < l.length) (hx : d = false → ¬ x < l[k]) : InsRel l x (k + 1) d (out ++ [l[k]]) := by
  rcases h with ⟨rfl, rfl, hb⟩ | ⟨rfl, j, hj, h1, h2, h3, rfl⟩
  · refine .inl ⟨rfl, (List.take_succ_eq_append_getElem hk).symm, fun y hy => ?_⟩
    rw [List.take_succ_eq_append_getElem hk, List.mem_append, List.mem_singleton] at hy
    have := hx rfl
    rcases hy with hy | rfl
    · exact hb y hy
    · omega
  · refine .inr ⟨rfl, j, by omega, h1, h2, h3, ?_⟩
    rw [List.take_succ_eq_append_getElem hk, List.drop_append_of_le_length (by rw [List.length_take]; omega)]
    simp
theorem InsRel.last {l : List Int} {x : Int} {k : Nat} {d : Bool} {out : List Int} (h : InsRel l x k d out) (hk : l.length ≤ k) : (if d then out else out ++ [x]) = insL l x := by
  rcases h with ⟨rfl, rfl, hb⟩ | ⟨rfl, j, hj, h1, h2, h3, rfl⟩
  · rw [List.take_of_length_le hk] at hb ⊢
    rw [insL_end hb]; rfl
  · rw [List.take_of_length_le hk, insL_before h1 h3 h2]; rfl
end Go.Proofs.Ytifnmfljlgaeoaa
