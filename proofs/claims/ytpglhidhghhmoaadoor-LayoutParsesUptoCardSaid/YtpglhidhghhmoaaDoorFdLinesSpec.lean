/- What Lines returns, over lists of bytes; and that the library's split at line feeds is the plain one. -/
import Derived.Test.YtpglhidhghhmoaaDoorFdSpec
import Derived.Lib.SplitLaws
import Derived.Lib.Split
namespace Go.Proofs.YtpglhidhghhmoaaDoor.Fl
open Go

/-- A text divided at its line feeds. -/
def splitNL (cur : List UInt8) : List UInt8 → List (List UInt8)
  | [] => [cur]
  | c :: r => if c = 10 then cur :: splitNL [] r else splitNL (cur ++ [c]) r
theorem splitNL_cons (cur : List UInt8) : ∀ (l : List UInt8), ∃ p ps, splitNL [] l = p :: ps ∧ splitNL cur l = (cur ++ p) :: ps := by
  intro l
  induction l generalizing cur with
  | nil => exact ⟨[], [], rfl, by simp [splitNL]⟩
  | cons c r ih =>
    by_cases h : c = 10
    · exact ⟨[], splitNL [] r, by simp [splitNL, h], by simp [splitNL, h]⟩
    · obtain ⟨p, ps, h1, h2⟩ := ih [c]
      obtain ⟨p', ps', h3, h4⟩ := ih (cur ++ [c])
      rw [h1] at h3
      injection h3 with h3 h5
      subst h3 h5
      refine ⟨c :: p, ps, ?_, ?_⟩
      · rw [splitNL, if_neg h, List.nil_append, h2]; rfl
      · rw [splitNL, if_neg h, h4]; simp
theorem index_hit (r : List UInt8) : Lib.index (10 :: r) [10] = 0 := by simp [Lib.index, List.isPrefixOf]
theorem index_skip {c : UInt8} (h : c ≠ 10) (r : List UInt8) : Lib.index (c :: r) [10] = if Lib.index r [10] = -1 then -1 else Lib.index r [10] + 1 := by
  have hp : List.isPrefixOf [10] (c :: r) = false := by simp [List.isPrefixOf, Ne.symm h]
  rw [Lib.index]
  simp only [hp]
  simp
theorem index_none_iff (r : List UInt8) : Lib.index r [10] = -1 ↔ Lib.count r [10] = 0 := by
  rw [Lib.count_one]
  induction r with
  | nil => simp [Lib.index]
  | cons c r ih =>
    by_cases h : c = 10
    · subst h
      rw [index_hit]; simp
    · rw [index_skip h, List.count_cons_of_ne (by simpa using h), ← ih]
      have := Lib.index_ge r [10]
      split <;> omega
theorem splitK_eq : ∀ (l : List UInt8) (k : Nat), Lib.count l [10] = k → Lib.splitK [10] 0 k l = splitNL [] l := by
  intro l
  induction l with
  | nil =>
    intro k hk
    have : k = 0 := by rw [← hk, Lib.count_one]; rfl
    subst this
    rfl
  | cons c r ih =>
    intro k hk
    by_cases h : c = 10
    · subst h
      rw [Lib.count_cons_eq] at hk
      obtain ⟨j, rfl⟩ : ∃ j, k = j + 1 := ⟨k - 1, by omega⟩
      rw [Lib.splitK, index_hit]
      simp only [splitNL, if_pos]
      rw [← ih j (by omega)]
      simp
    · rw [Lib.count_cons_ne c 10 r h] at hk
      obtain ⟨p, ps, h1, h2⟩ := splitNL_cons [c] r
      rw [splitNL, if_neg h, List.nil_append, h2]
      have hi := ih k hk
      rw [h1] at hi
      rcases k with _ | j
      · rw [Lib.splitK] at hi ⊢
        injection hi with e1 e2
        rw [← e1, ← e2]; rfl
      · have hne : Lib.index r [10] ≠ -1 := fun e => by rw [(index_none_iff r).1 e] at hk; omega
        have hge := Lib.index_ge r [10]
        rw [Lib.splitK, if_neg (by simpa using hne)] at hi
        rw [Lib.splitK, index_skip h, if_neg hne, if_neg (by simp; omega)]
        injection hi with e1 e2
        rw [← e1, ← e2]
        obtain ⟨i, hi'⟩ := Int.eq_ofNat_of_zero_le (show 0 ≤ Lib.index r [10] by omega)
        rw [hi']
        simp only [List.length_cons, List.length_nil]
        have e3 : ((i : Int) + 1).toNat = i + 1 := by omega
        rw [e3, Int.toNat_natCast]
        simp
/-- What strings.Split returns at a line feed. -/
theorem splitB_nl (l : List UInt8) : (Lib.splitB ⟨#[10]⟩ 0 (Lib.countB ⟨l.toArray⟩ ⟨#[10]⟩) ⟨l.toArray⟩).map Value.string = (splitNL [] l).map (fun p => Value.string ⟨p.toArray⟩) := by
  have h := Lib.splitB_data ⟨#[10]⟩ 0 (Lib.countB ⟨l.toArray⟩ ⟨#[10]⟩) ⟨l.toArray⟩
  have h2 := splitK_eq l (Lib.countB ⟨l.toArray⟩ ⟨#[10]⟩) rfl
  rw [show (⟨#[10]⟩ : ByteArray).data.toList = [10] from rfl, show (⟨l.toArray⟩ : ByteArray).data.toList = l from rfl, h2] at h
  rw [← h, List.map_map]
  apply List.map_congr_left
  intro x _
  rfl
theorem count_nl (l : List UInt8) : Lib.countB ⟨l.toArray⟩ ⟨#[10]⟩ + 1 = (splitNL [] l).length := by
  have h := congrArg List.length (splitB_nl l)
  rw [List.length_map, List.length_map, Lib.splitB_all _ (by decide) _ _ _ rfl] at h
  exact h

/-- The lines of pieces that have fields, with their numbers; or the first error and its line. -/
def linesA (num : Nat) (acc : List (Nat × List (List UInt8))) : List (List UInt8) → Except (Nat × Nat) (List (Nat × List (List UInt8)))
  | [] => .ok acc
  | p :: r => match scanA [] [] p with
    | .error e => .error (num, e)
    | .ok fs => linesA (num + 1) (if fs = [] then acc else acc ++ [(num, fs)]) r
/-- What Lines returns. -/
def linesT (l : List UInt8) : Except (Nat × Nat) (List (Nat × List (List UInt8))) :=
  if 6000 < l.length then .error (0, 1) else linesA 1 [] (splitNL [] l)
theorem linesA_end {num k : Nat} {acc : List (Nat × List (List UInt8))} {ps : List (List UInt8)} (h : ps.length ≤ k) : linesA num acc (ps.drop k) = .ok acc := by
  rw [List.drop_of_length_le h]; rfl
theorem linesA_bad {num k e : Nat} {acc : List (Nat × List (List UInt8))} {ps : List (List UInt8)} (h : k < ps.length) (hs : scanA [] [] ps[k] = .error e) : linesA num acc (ps.drop k) = .error (num, e) := by
  rw [List.drop_eq_getElem_cons h, linesA, hs]
theorem linesA_none {num k : Nat} {acc : List (Nat × List (List UInt8))} {ps : List (List UInt8)} (h : k < ps.length) (hs : scanA [] [] ps[k] = .ok []) : linesA num acc (ps.drop k) = linesA (num + 1) acc (ps.drop (k + 1)) := by
  rw [List.drop_eq_getElem_cons h, linesA, hs]; rfl
theorem linesA_some {num k : Nat} {acc : List (Nat × List (List UInt8))} {ps : List (List UInt8)} {fs : List (List UInt8)} (h : k < ps.length) (hs : scanA [] [] ps[k] = .ok fs) (hf : fs ≠ []) : linesA num acc (ps.drop k) = linesA (num + 1) (acc ++ [(num, fs)]) (ps.drop (k + 1)) := by
  rw [List.drop_eq_getElem_cons h, linesA, hs]
  simp only [if_neg hf]
theorem splitNL_length_le (l : List UInt8) : ∀ cur, (splitNL cur l).length ≤ l.length + 1 := by
  induction l with
  | nil => intro cur; simp [splitNL]
  | cons c r ih =>
    intro cur
    unfold splitNL
    split
    · have := ih []; simp; omega
    · have := ih (cur ++ [c]); simp; omega
theorem splitNL_piece (l : List UInt8) : ∀ cur p, p ∈ splitNL cur l → p.length ≤ cur.length + l.length := by
  induction l with
  | nil => intro cur p hp; simp [splitNL] at hp; subst hp; simp
  | cons c r ih =>
    intro cur p hp
    unfold splitNL at hp
    split at hp
    · rcases List.mem_cons.1 hp with rfl | hp
      · simp
      · have := ih [] p hp; simp at this ⊢; omega
    · have := ih _ p hp; simp at this ⊢; omega
end Go.Proofs.YtpglhidhghhmoaaDoor.Fl
