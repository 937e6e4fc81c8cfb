/- Lists of frames as channels, as plain data. -/
import Derived.Test.YtckknakpmaagnaaFrSpec
namespace Go.Proofs.Ytckknakpmaagnaa.Fl

/-- What Send returns. -/
def sendL (l : List FrD) (f : FrD) : List FrD := if l.length ≤ 6 then (if l.length < 6 then l ++ [f] else l) else []
/-- Whether a list is a channel with a frame i. -/
def hasI (l : List FrD) (i : Int) : Bool := decide (l.length ≤ 6 ∧ 0 ≤ i ∧ i < (l.length : Int))
/-- The list without frame i. -/
def dropL (l : List FrD) (i : Nat) : List FrD := l.take i ++ l.drop (i + 1)
def delF (l : List FrD) (i : Int) : FrD := if hasI l i then l.getD i.toNat zeroF else zeroF
def delL (l : List FrD) (i : Int) : List FrD := if hasI l i then dropL l i.toNat else []
def dblL (l : List FrD) (i : Int) : List FrD := if hasI l i then sendL l (l.getD i.toNat zeroF) else []
/-- How often a frame is in a list. -/
def cntF (l : List FrD) (f : FrD) : Nat := l.countP (fun g => decide (g = f))

theorem hasI_iff {l : List FrD} {i : Int} : hasI l i = true ↔ l.length ≤ 6 ∧ 0 ≤ i ∧ i < (l.length : Int) := by simp [hasI]
theorem hasI_no {l : List FrD} {i : Int} (h : hasI l i = false) : delF l i = zeroF ∧ delL l i = [] ∧ dblL l i = [] := by simp [delF, delL, dblL, h]
theorem hasI_at {l : List FrD} {i : Nat} (h : hasI l (i : Int) = true) : ∃ hi : i < l.length, l.length ≤ 6 ∧ delF l i = l[i] ∧ delL l i = dropL l i ∧ dblL l i = sendL l l[i] := by
  have h1 := hasI_iff.1 h
  have hi : i < l.length := by omega
  refine ⟨hi, h1.1, ?_, ?_, ?_⟩
  · unfold delF; rw [if_pos h]; simp [hi]
  · unfold delL; rw [if_pos h]; simp
  · unfold dblL; rw [if_pos h]; simp [hi]
theorem hasI_lt {l : List FrD} {i : Nat} (h : i < l.length) (h6 : l.length ≤ 6) : hasI l (i : Int) = true := hasI_iff.2 ⟨h6, by omega, by omega⟩
theorem dropL_len {l : List FrD} {i : Nat} (h : i < l.length) : (dropL l i).length = l.length - 1 := by
  unfold dropL; simp; omega
theorem dropL_at {l : List FrD} {i : Nat} (j : Nat) (h : i < l.length) : (dropL l i)[j]? = l[if i ≤ j then j + 1 else j]? := by
  unfold dropL
  have ht : (l.take i).length = i := by rw [List.length_take]; omega
  by_cases h1 : i ≤ j
  · rw [List.getElem?_append_right (by omega), if_pos h1, List.getElem?_drop, ht]
    congr 1
    omega
  · rw [List.getElem?_append_left (by omega), if_neg h1, List.getElem?_take, if_pos (by omega)]
theorem sendL_len (l : List FrD) (f : FrD) : (sendL l f).length ≤ 6 := by
  unfold sendL; split
  · split
    · simp; omega
    · omega
  · simp
theorem sendL_cases {l : List FrD} (f : FrD) (h : l.length ≤ 6) : (l.length < 6 ∧ sendL l f = l ++ [f]) ∨ (l.length = 6 ∧ sendL l f = l) := by
  unfold sendL; rw [if_pos h]
  by_cases h1 : l.length < 6
  · rw [if_pos h1]; exact .inl ⟨h1, rfl⟩
  · rw [if_neg h1]; exact .inr ⟨by omega, rfl⟩
theorem cnt_le (l : List FrD) (f : FrD) : cntF l f ≤ l.length := List.countP_le_length
theorem cnt_snoc (l : List FrD) (f g : FrD) : cntF (l ++ [f]) g = cntF l g + (if g = f then 1 else 0) := by
  unfold cntF; rw [List.countP_append]
  by_cases h : g = f
  · subst h; simp
  · simp [h, Ne.symm h]
theorem cnt_send {l : List FrD} (f g : FrD) (h : l.length ≤ 6) : (cntF (sendL l f) g : Int) = cntF l g + (if g = f then ((sendL l f).length : Int) - l.length else 0) := by
  rcases sendL_cases f h with ⟨_, e⟩ | ⟨_, e⟩
  · rw [e, cnt_snoc, List.length_append, List.length_singleton]; split <;> omega
  · rw [e]; split <;> omega
theorem cnt_drop {l : List FrD} {i : Nat} (hi : i < l.length) (g : FrD) : (cntF (dropL l i) g : Int) = cntF l g - (if g = l[i] then 1 else 0) := by
  have e : l = l.take i ++ l[i] :: l.drop (i + 1) := by rw [← List.drop_eq_getElem_cons hi, List.take_append_drop]
  have h1 : cntF l g = cntF (l.take i) g + (cntF (l.drop (i + 1)) g + (if g = l[i] then 1 else 0)) := by
    have h2 : cntF l g = cntF (l.take i ++ l[i] :: l.drop (i + 1)) g := congrArg (fun x => cntF x g) e
    rw [h2]
    unfold cntF
    rw [List.countP_append, List.countP_cons]
    by_cases h : g = l[i]
    · simp [← h]
    · simp [h, Ne.symm h]
  have h2 : cntF (dropL l i) g = cntF (l.take i) g + cntF (l.drop (i + 1)) g := by unfold dropL cntF; rw [List.countP_append]
  rw [h1, h2]
  split <;> simp <;> omega
end Go.Proofs.Ytckknakpmaagnaa.Fl
