/- What a line's reading comes to, in the steps of layout.parseLine. No program is run here. -/
import Derived.Test.YtpglhidhghhmoaaDoorLyNames
namespace Go.Proofs.YtpglhidhghhmoaaDoor.Fl
open Go

theorem readA_nums : ∀ (r : List (List UInt8)) (ns : List (List UInt8)) (xs : List Int), readA 0 ns xs r = match numsA xs r with | some zs => .ok (ns, zs) | none => .error 7
  | [], ns, xs => rfl
  | s :: r, ns, xs => by
    rw [readA, numsA]
    rcases num s with _ | z
    · rfl
    · exact readA_nums r ns _
theorem readA_names : ∀ (k : Nat) (r : List (List UInt8)) (ns : List (List UInt8)), k ≤ r.length → readA k ns [] r = if (r.take k).all name then (match numsA [] (r.drop k) with | some zs => .ok (ns ++ r.take k, zs) | none => .error 7) else .error 6
  | 0, r, ns, _ => by simp [readA_nums]
  | k + 1, [], ns, h => by simp at h
  | k + 1, s :: r, ns, h => by
    rw [readA]
    by_cases hn : name s = true
    · rw [if_pos hn, readA_names k r (ns ++ [s]) (by simpa using h)]
      simp [hn]
    · rw [if_neg hn]
      simp [hn]
/-- What allows returns for the shape of word k, with m names and all its numbers. -/
def allowed (k : Nat) (m : Int) : Bool := decide (m = shapeN k) || decide (k = 2) && decide ((shapeN k : Int) < m)
theorem allowed_eq {k n : Nat} : allowed k ((n : Int) - shapeX k) = !wrongCount k n := by
  have h2 : k = 2 → shapeN k = 2 ∧ shapeX k = 0 := by rintro rfl; exact ⟨rfl, rfl⟩
  unfold allowed wrongCount
  rw [Bool.eq_iff_iff]
  simp only [Bool.or_eq_true, Bool.and_eq_true, decide_eq_true_eq, Bool.not_eq_true', decide_eq_false_iff_not, not_and, not_or]
  by_cases e : k = 2
  · obtain ⟨e1, e2⟩ := h2 e
    rw [e1, e2]
    omega
  · omega
theorem allowed_none {s : List UInt8} (h : wordOf s ≠ 0) : allowed (wordOf s) (0 - shapeX (wordOf s)) = false := by
  have h6 := wordOf_le s
  generalize wordOf s = k at *
  obtain rfl | rfl | rfl | rfl | rfl | rfl : k = 1 ∨ k = 2 ∨ k = 3 ∨ k = 4 ∨ k = 5 ∨ k = 6 := by omega
  all_goals rfl
theorem parse1_word {n : Int} {s : List UInt8} {r : List (List UInt8)} (h : wordOf s = 0) : parse1 (n, s :: r) = .error 4 := by
  simp [parse1, h]
theorem parse1_count {n : Int} {s : List UInt8} {r : List (List UInt8)} (h : wordOf s ≠ 0) (h2 : allowed (wordOf s) ((r.length : Int) - shapeX (wordOf s)) = false) : parse1 (n, s :: r) = .error 5 := by
  rw [allowed_eq] at h2
  have h3 : wrongCount (wordOf s) r.length = true := by simpa using h2
  simp [parse1, h, h3]
theorem parse1_rest {n : Int} {s : List UInt8} {r : List (List UInt8)} (h : wordOf s ≠ 0) (h2 : allowed (wordOf s) ((r.length : Int) - shapeX (wordOf s)) = true) :
    shapeX (wordOf s) ≤ r.length ∧ parse1 (n, s :: r) = if (r.take (r.length - shapeX (wordOf s))).all name then (match numsA [] (r.drop (r.length - shapeX (wordOf s))) with | some zs => .ok ⟨wordOf s, n, r.take (r.length - shapeX (wordOf s)), zs⟩ | none => .error 7) else .error 6 := by
  rw [allowed_eq] at h2
  have h3 : wrongCount (wordOf s) r.length = false := by simpa using h2
  refine ⟨count_ge h3, ?_⟩
  simp only [parse1, h, h3, if_false, Bool.false_eq_true, readA_names _ r [] (Nat.sub_le _ _)]
  by_cases ha : (r.take (r.length - shapeX (wordOf s))).all name = true
  · simp only [if_pos ha]
    rcases numsA [] (r.drop (r.length - shapeX (wordOf s))) with _ | zs
    · rfl
    · simp
  · simp only [if_neg ha]
end Go.Proofs.YtpglhidhghhmoaaDoor.Fl
