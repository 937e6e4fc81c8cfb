/- What Join returns, over lists of bytes. No program is named here. -/
import Derived.Test.YtpglhidhghhmoaaDoorFdLinesSpec
import Derived.Lib.Join
import Derived.Lib.Repeat
namespace Go.Proofs.YtpglhidhghhmoaaDoor.Fl
open Go

abbrev LineI := Int × List (List UInt8)
def fieldOk (f : List UInt8) : Bool := decide (1 ≤ f.length ∧ f.length ≤ 12) && f.all fieldByte
theorem fieldOk_bad {l : List UInt8} {k : Nat} (h : k < l.length) (hb : fieldByte l[k] = false) : fieldOk l = false := by
  have : l.all fieldByte = false := by
    rw [List.all_eq_false]
    exact ⟨l[k], List.getElem_mem h, by simp [hb]⟩
  simp [fieldOk, this]
theorem fieldOk_size {l : List UInt8} (h : ¬ (1 ≤ l.length ∧ l.length ≤ 12)) : fieldOk l = false := by
  unfold fieldOk; rw [decide_eq_false h]; rfl
theorem fieldOk_good {l : List UInt8} (h : 1 ≤ l.length ∧ l.length ≤ 12) (h2 : l.all fieldByte = true) : fieldOk l = true := by
  unfold fieldOk; rw [decide_eq_true h, h2]; rfl
theorem fieldOk_len {l : List UInt8} (h : fieldOk l = true) : 1 ≤ l.length ∧ l.length ≤ 12 := by
  unfold fieldOk at h
  simp only [Bool.and_eq_true, decide_eq_true_eq] at h
  exact h.1
/-- Lines as Lines returns them: the numbers rise, no line is empty, every field is one. -/
def formed (last : Int) : List LineI → Bool
  | [] => true
  | x :: r => decide (last < x.1) && decide (x.2 ≠ []) && x.2.all fieldOk && formed x.1 r
theorem formed_drop {last : Int} {ls : List LineI} {k : Nat} (h : k < ls.length) : formed last (ls.drop k) = (decide (last < ls[k].1) && decide (ls[k].2 ≠ []) && ls[k].2.all fieldOk && formed ls[k].1 (ls.drop (k + 1))) := by
  rw [List.drop_eq_getElem_cons h, formed]
/-- The text of the lines behind acc, which ends with line 'last'; 1: it would be too long. -/
def joinA (last : Int) (acc : List UInt8) : List LineI → Except Nat (List UInt8)
  | [] => .ok acc
  | x :: r => if 6000 < x.1 then .error 1 else
    if 6000 < (acc ++ Lib.repeatL [10] (x.1 - last - 1).toNat ++ Lib.join x.2 [32] ++ [10]).length then .error 1
    else joinA x.1 (acc ++ Lib.repeatL [10] (x.1 - last - 1).toNat ++ Lib.join x.2 [32] ++ [10]) r
/-- What Join returns; 20: the lines are not well formed. -/
def joinT (ls : List LineI) : Except Nat (List UInt8) := if formed 0 ls then joinA 0 [] ls else .error 20
theorem joinA_end {last : Int} {acc : List UInt8} {ls : List LineI} {k : Nat} (h : ls.length ≤ k) : joinA last acc (ls.drop k) = .ok acc := by
  rw [List.drop_of_length_le h]; rfl
theorem joinA_num {last : Int} {acc : List UInt8} {ls : List LineI} {k : Nat} (h : k < ls.length) (hn : 6000 < ls[k].1) : joinA last acc (ls.drop k) = .error 1 := by
  rw [List.drop_eq_getElem_cons h, joinA, if_pos hn]
theorem joinA_big {last : Int} {acc t : List UInt8} {ls : List LineI} {k : Nat} (h : k < ls.length) (hn : ls[k].1 ≤ 6000) (ht : t = acc ++ Lib.repeatL [10] (ls[k].1 - last - 1).toNat ++ Lib.join ls[k].2 [32] ++ [10]) (hb : 6000 < t.length) : joinA last acc (ls.drop k) = .error 1 := by
  subst ht
  rw [List.drop_eq_getElem_cons h, joinA, if_neg (by omega), if_pos hb]
theorem joinA_step {last : Int} {acc t : List UInt8} {ls : List LineI} {k : Nat} (h : k < ls.length) (hn : ls[k].1 ≤ 6000) (ht : t = acc ++ Lib.repeatL [10] (ls[k].1 - last - 1).toNat ++ Lib.join ls[k].2 [32] ++ [10]) (hb : t.length ≤ 6000) : joinA last acc (ls.drop k) = joinA ls[k].1 t (ls.drop (k + 1)) := by
  subst ht
  rw [List.drop_eq_getElem_cons h, joinA, if_neg (by omega), if_neg (by omega)]
/-- Joined fields: at most thirteen bytes each. -/
theorem join_length_le : ∀ (fs : List (List UInt8)), fs.all fieldOk = true → (Lib.join fs [32]).length ≤ 13 * fs.length
  | [], _ => by simp [Lib.join_nil]
  | x :: r, h => by
    simp only [List.all_cons, Bool.and_eq_true] at h
    have hx := fieldOk_len h.1
    rw [Lib.join_cons, List.length_append]
    have ht : ∀ (r : List (List UInt8)), r.all fieldOk = true → (Lib.joinTail [32] r).length ≤ 13 * r.length := by
      intro r
      induction r with
      | nil => intro _; simp [Lib.joinTail]
      | cons y r ih =>
        intro h
        simp only [List.all_cons, Bool.and_eq_true] at h
        have hy := fieldOk_len h.1
        have := ih h.2
        simp [Lib.joinTail] at this ⊢
        omega
    have := ht r h.2
    simp; omega
end Go.Proofs.YtpglhidhghhmoaaDoor.Fl
