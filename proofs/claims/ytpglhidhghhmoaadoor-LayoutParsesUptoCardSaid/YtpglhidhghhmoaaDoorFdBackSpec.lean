/- Lines are read back from their text, also with comments and further blanks: over lists of bytes. No program is named here. -/
import Derived.Test.YtpglhidhghhmoaaDoorFdJoinSpec
namespace Go.Proofs.YtpglhidhghhmoaaDoor.Fl
open Go

/-- What may stand between two fields. -/
def IsSep (sep : List UInt8) : Prop := (∀ (cur : List UInt8) (acc : List (List UInt8)) (r : List UInt8), scanA cur acc (sep ++ r) = scanA [] (flush cur acc) r) ∧ 10 ∉ sep
/-- What may stand at the end of a line. -/
def IsTail (tail : List UInt8) : Prop := (∀ (cur : List UInt8) (acc : List (List UInt8)), scanA cur acc tail = .ok (flush cur acc)) ∧ 10 ∉ tail
theorem sep_plain : IsSep [32] := ⟨fun cur acc r => by
  rw [List.singleton_append, scanA, if_neg (by decide), if_pos (.inl (by decide))], by simp⟩
theorem sep_tab : IsSep [9, 32] := ⟨fun cur acc r => by
  show scanA cur acc (9 :: 32 :: r) = _
  rw [scanA, if_neg (by decide), if_pos (.inr (by decide)), scanA, if_neg (by decide), if_pos (.inl (by decide))]
  rfl, by decide⟩
theorem tail_plain : IsTail [] := ⟨fun _ _ => rfl, by simp⟩
theorem tail_comment {com : List UInt8} (h : 10 ∉ com) : IsTail ([32, 9, 35, 32] ++ com) := ⟨fun cur acc => by
  show scanA cur acc (32 :: 9 :: 35 :: 32 :: com) = _
  rw [scanA, if_neg (by decide), if_pos (.inl (by decide)), scanA, if_neg (by decide), if_pos (.inr (by decide)), scanA, if_pos (by decide)]
  rfl, by simp [h]⟩
theorem scanA_field : ∀ (x cur : List UInt8) (acc : List (List UInt8)) (r : List UInt8), x.all fieldByte = true → cur.length + x.length ≤ 12 → scanA cur acc (x ++ r) = scanA (cur ++ x) acc r
  | [], cur, acc, r, _, _ => by simp
  | c :: x, cur, acc, r, h, hl => by
    simp only [List.all_cons, Bool.and_eq_true] at h
    have hb := fieldByte_bounds h.1
    simp only [List.length_cons] at hl
    rw [List.cons_append, scanA, if_neg (by omega), if_neg (by omega), if_pos h.1, if_neg (by omega), scanA_field x (cur ++ [c]) acc r h.2 (by simp; omega)]
    simp
/-- Fields with what stands between them. -/
def joinSep (sep : List UInt8) : List (List UInt8) → List UInt8
  | [] => []
  | [x] => x
  | x :: y :: r => x ++ (sep ++ joinSep sep (y :: r))
theorem fieldOk_all {l : List UInt8} (h : fieldOk l = true) : l.all fieldByte = true := by
  unfold fieldOk at h; simp only [Bool.and_eq_true] at h; exact h.2
theorem scan_fields {sep tail : List UInt8} (hs : IsSep sep) (ht : IsTail tail) : ∀ (fs acc : List (List UInt8)), fs.all fieldOk = true → scanA [] acc (joinSep sep fs ++ tail) = .ok (acc ++ fs)
  | [], acc, _ => by simp [joinSep, ht.1, flush]
  | [x], acc, h => by
    simp only [List.all_cons, List.all_nil, Bool.and_true] at h
    have hl := fieldOk_len h
    rw [joinSep, scanA_field x [] acc tail (fieldOk_all h) (by simp; omega), ht.1, List.nil_append, flush, if_neg (by rintro rfl; simp at hl)]
  | x :: y :: r, acc, h => by
    have h' : fieldOk x = true ∧ (y :: r).all fieldOk = true := by simpa only [List.all_cons, Bool.and_eq_true] using h
    have hl := fieldOk_len h'.1
    rw [joinSep, List.append_assoc, List.append_assoc, scanA_field x [] acc _ (fieldOk_all h'.1) (by simp; omega), hs.1, List.nil_append, flush, if_neg (by rintro rfl; simp at hl), scan_fields hs ht (y :: r) _ h'.2]
    simp
theorem joinSep_no10 {sep : List UInt8} (hs : 10 ∉ sep) : ∀ (fs : List (List UInt8)), fs.all fieldOk = true → 10 ∉ joinSep sep fs
  | [], _ => by simp [joinSep]
  | [x], h => by
    simp only [List.all_cons, List.all_nil, Bool.and_true] at h
    intro hm
    have := List.all_eq_true.1 (fieldOk_all h) 10 hm
    exact absurd this (by decide)
  | x :: y :: r, h => by
    have h' : fieldOk x = true ∧ (y :: r).all fieldOk = true := by simpa only [List.all_cons, Bool.and_eq_true] using h
    rw [joinSep]
    simp only [List.mem_append, not_or]
    refine ⟨fun hm => ?_, hs, joinSep_no10 hs (y :: r) h'.2⟩
    exact absurd (List.all_eq_true.1 (fieldOk_all h'.1) 10 hm) (by decide)
theorem splitNL_line : ∀ (p cur r : List UInt8), 10 ∉ p → splitNL cur (p ++ 10 :: r) = (cur ++ p) :: splitNL [] r
  | [], cur, r, _ => by simp [splitNL]
  | c :: p, cur, r, h => by
    simp only [List.mem_cons, not_or] at h
    rw [List.cons_append, splitNL, if_neg (Ne.symm h.1), splitNL_line p _ r h.2]
    simp
/-- Empty lines. -/
def blanks (tail : List UInt8) : Nat → List UInt8 → List UInt8
  | 0, r => r
  | k + 1, r => tail ++ 10 :: blanks tail k r
/-- The text of lines behind line 'last'. -/
def body (sep tail : List UInt8) (last : Nat) : List (Nat × List (List UInt8)) → List UInt8
  | [] => []
  | x :: r => blanks tail (x.1 - last - 1) (joinSep sep x.2 ++ (tail ++ 10 :: body sep tail x.1 r))
/-- A line with its number as an integer. -/
def toI (x : Nat × List (List UInt8)) : LineI := ((x.1 : Int), x.2)
theorem linesA_blanks {tail : List UInt8} (ht : IsTail tail) : ∀ (k num : Nat) (acc : List (Nat × List (List UInt8))) (r : List UInt8), linesA num acc (splitNL [] (blanks tail k r)) = linesA (num + k) acc (splitNL [] r)
  | 0, _, _, _ => rfl
  | k + 1, num, acc, r => by
    rw [blanks, splitNL_line tail [] _ ht.2, List.nil_append, linesA, ht.1]
    simp only [flush_nil, if_true]
    rw [linesA_blanks ht k (num + 1) acc r, Nat.add_assoc, Nat.add_comm 1 k]
theorem linesA_body {sep tail : List UInt8} (hs : IsSep sep) (ht : IsTail tail) : ∀ (ls : List (Nat × List (List UInt8))) (last : Nat) (acc : List (Nat × List (List UInt8))), formed last (ls.map toI) = true → linesA (last + 1) acc (splitNL [] (body sep tail last ls)) = .ok (acc ++ ls)
  | [], last, acc, _ => by
    simp only [body, splitNL, linesA, scanA, flush_nil, if_true, List.append_nil]
  | x :: r, last, acc, h => by
    have h' : ((last : Int) < (x.1 : Int) ∧ x.2 ≠ []) ∧ x.2.all fieldOk = true ∧ formed (x.1 : Int) (r.map toI) = true := by
      simp only [List.map_cons, formed, Bool.and_eq_true, decide_eq_true_eq, toI] at h
      exact ⟨⟨h.1.1.1, h.1.1.2⟩, h.1.2, h.2⟩
    obtain ⟨⟨h1, h2⟩, h3, h4⟩ := h'
    have hsp : splitNL [] (joinSep sep x.2 ++ (tail ++ 10 :: body sep tail x.1 r)) = (joinSep sep x.2 ++ tail) :: splitNL [] (body sep tail x.1 r) := by
      rw [← List.append_assoc, splitNL_line _ [] _ (by simp only [List.mem_append, not_or]; exact ⟨joinSep_no10 hs.2 _ h3, ht.2⟩), List.nil_append]
    rw [body, linesA_blanks ht, hsp, linesA, scan_fields hs ht x.2 [] h3, List.nil_append]
    simp only [if_neg h2]
    have e : last + 1 + (x.1 - last - 1) = x.1 := by omega
    rw [e, linesA_body hs ht r x.1 _ h4]
    simp
theorem linesT_body {sep tail : List UInt8} (hs : IsSep sep) (ht : IsTail tail) {ls : List (Nat × List (List UInt8))} (h : formed 0 (ls.map toI) = true) (hl : (body sep tail 0 ls).length ≤ 6000) : linesT (body sep tail 0 ls) = .ok ls := by
  unfold linesT
  rw [if_neg (by omega), linesA_body hs ht ls 0 [] h, List.nil_append]
theorem join_sep : ∀ (fs : List (List UInt8)), Lib.join fs [32] = joinSep [32] fs
  | [] => rfl
  | [x] => by rw [Lib.join_one]; rfl
  | x :: y :: r => by
    have h := join_sep (y :: r)
    rw [Lib.join_cons] at h ⊢
    rw [joinSep, ← h]
    simp [Lib.joinTail]
theorem blanks_plain (k : Nat) (r : List UInt8) : blanks [] k r = Lib.repeatL [10] k ++ r := by
  induction k with
  | zero => rfl
  | succ k ih => rw [blanks, ih]; rfl
theorem joinA_body : ∀ (ls : List (Nat × List (List UInt8))) (last : Nat) (acc t : List UInt8), joinA last acc (ls.map toI) = .ok t → t = acc ++ body [32] [] last ls
  | [], _, acc, t, h => by injection h with h; subst h; simp [body]
  | x :: r, last, acc, t, h => by
    simp only [List.map_cons, joinA, toI] at h
    split at h
    · cases h
    · split at h
      · cases h
      · have ih := joinA_body r x.1 _ t h
        rw [ih, body, blanks_plain, ← join_sep]
        have e : ((x.1 : Int) - (last : Int) - 1).toNat = x.1 - last - 1 := by omega
        rw [e]
        simp
/-- Lines of Join of lines are the lines. -/
theorem linesT_joinT {ls : List (Nat × List (List UInt8))} {t : List UInt8} (h : joinT (ls.map toI) = .ok t) (hl : t.length ≤ 6000) : formed 0 (ls.map toI) = true ∧ t = body [32] [] 0 ls ∧ linesT t = .ok ls := by
  unfold joinT at h
  split at h
  · rename_i hf
    have e := joinA_body ls 0 [] t h
    rw [List.nil_append] at e
    refine ⟨hf, e, ?_⟩
    rw [e] at hl ⊢
    exact linesT_body sep_plain tail_plain hf hl
  · cases h
/-- A byte, with a comment before a line feed and a tab before a space. -/
def tr (com : List UInt8) (c : UInt8) : List UInt8 := if c = 10 then [32, 9, 35, 32] ++ com ++ [10] else if c = 32 then [9, 32] else [c]
theorem tr_field (com : List UInt8) : ∀ (x : List UInt8), x.all fieldByte = true → x.flatMap (tr com) = x
  | [], _ => rfl
  | c :: x, h => by
    simp only [List.all_cons, Bool.and_eq_true] at h
    have hb := fieldByte_bounds h.1
    have h1 : c ≠ 10 := by rintro rfl; exact absurd hb.1 (by decide)
    have h2 : c ≠ 32 := by rintro rfl; exact absurd hb.1 (by decide)
    rw [List.flatMap_cons, tr_field com x h.2, tr, if_neg h1, if_neg h2]; rfl
theorem tr_join (com : List UInt8) : ∀ (fs : List (List UInt8)), fs.all fieldOk = true → (joinSep [32] fs).flatMap (tr com) = joinSep [9, 32] fs
  | [], _ => rfl
  | [x], h => by
    simp only [List.all_cons, List.all_nil, Bool.and_true] at h
    exact tr_field com x (fieldOk_all h)
  | x :: y :: r, h => by
    have h' : fieldOk x = true ∧ (y :: r).all fieldOk = true := by simpa only [List.all_cons, Bool.and_eq_true] using h
    rw [joinSep, joinSep, List.flatMap_append, List.flatMap_append, tr_field com x (fieldOk_all h'.1), tr_join com (y :: r) h'.2]
    rfl
theorem tr_blanks (com : List UInt8) (k : Nat) (r : List UInt8) : (blanks [] k r).flatMap (tr com) = blanks ([32, 9, 35, 32] ++ com) k (r.flatMap (tr com)) := by
  induction k with
  | zero => rfl
  | succ k ih =>
    rw [blanks, blanks, List.nil_append, List.flatMap_cons, ih, tr, if_pos rfl]
    simp
theorem tr_body (com : List UInt8) : ∀ (ls : List (Nat × List (List UInt8))) (last : Int) (l : Nat), formed last (ls.map toI) = true → (body [32] [] l ls).flatMap (tr com) = body [9, 32] ([32, 9, 35, 32] ++ com) l ls
  | [], _, _, _ => rfl
  | x :: r, last, l, h => by
    have h' : x.2.all fieldOk = true ∧ formed (x.1 : Int) (r.map toI) = true := by
      simp only [List.map_cons, formed, Bool.and_eq_true, decide_eq_true_eq, toI] at h
      exact ⟨h.1.2, h.2⟩
    rw [body, body, tr_blanks, List.flatMap_append, tr_join com x.2 h'.1, List.nil_append, List.flatMap_cons, tr_body com r x.1 x.1 h'.2, tr, if_pos rfl]
    simp
/-- A comment in every line and further blanks change nothing. -/
theorem linesT_commented {ls : List (Nat × List (List UInt8))} {t com : List UInt8} (hf : formed 0 (ls.map toI) = true) (ht : t = body [32] [] 0 ls) (hc : 10 ∉ com) (hl : (t.flatMap (tr com)).length ≤ 6000) : linesT (t.flatMap (tr com)) = .ok ls := by
  subst ht
  rw [tr_body com ls 0 0 hf] at hl ⊢
  exact linesT_body sep_tab (tail_comment hc) hf hl
end Go.Proofs.YtpglhidhghhmoaaDoor.Fl
