/- What Parse, Valid and Format return, over lists of bytes. No program is named here. -/
import Derived.Test.YtpglhidhghhmoaaDoorFdJoinSpec
namespace Go.Proofs.YtpglhidhghhmoaaDoor.Fl
open Go

/-- A declaration: its word, its line, its names and its numbers. -/
structure DeclD where
  word : Int
  line : Int
  names : List (List UInt8)
  nums : List Int
deriving DecidableEq
abbrev wBlock : List UInt8 := [98, 108, 111, 99, 107]
abbrev wLane : List UInt8 := [108, 97, 110, 101]
abbrev wStation : List UInt8 := [115, 116, 97, 116, 105, 111, 110]
abbrev wDepot : List UInt8 := [100, 101, 112, 111, 116]
abbrev wRobot : List UInt8 := [114, 111, 98, 111, 116]
abbrev wConfig : List UInt8 := [99, 111, 110, 102, 105, 103]
/-- The number of a word, or 0. -/
def wordOf (s : List UInt8) : Nat :=
  if s = wBlock then 1 else if s = wLane then 2 else if s = wStation then 3 else if s = wDepot then 4 else if s = wRobot then 5 else if s = wConfig then 6 else 0
/-- The word of a number. -/
def wordText (w : Int) : List UInt8 :=
  if w = 1 then wBlock else if w = 2 then wLane else if w = 3 then wStation else if w = 4 then wDepot else if w = 5 then wRobot else wConfig
/-- How many names and how many numbers follow a word. -/
def shapeN (w : Int) : Nat := if w = 1 then 1 else if w = 2 then 2 else if w = 3 then 3 else if w = 4 then 3 else if w = 5 then 1 else 0
def shapeX (w : Int) : Nat := if w = 1 then 2 else if w = 2 then 0 else if w = 3 then 1 else if w = 4 then 1 else if w = 5 then 1 else 4
theorem wordOf_le (s : List UInt8) : wordOf s ≤ 6 := by unfold wordOf; repeat' split
                                                        all_goals omega
theorem shapeN_le (w : Int) : shapeN w ≤ 3 := by unfold shapeN; repeat' split
                                                 all_goals omega
theorem shapeX_le (w : Int) : shapeX w ≤ 4 := by unfold shapeX; repeat' split
                                                 all_goals omega
/-- k names, then numbers; 6: a field is not a name; 7: it is not a number. -/
def readA : Nat → List (List UInt8) → List Int → List (List UInt8) → Except Nat (List (List UInt8) × List Int)
  | _, ns, xs, [] => .ok (ns, xs)
  | k + 1, ns, xs, s :: r => if name s then readA k (ns ++ [s]) xs r else .error 6
  | 0, ns, xs, s :: r => match num s with
    | some z => readA 0 ns (xs ++ [z]) r
    | none => .error 7
theorem readA_end {k : Nat} {ns : List (List UInt8)} {xs : List Int} {r : List (List UInt8)} {i : Nat} (h : r.length ≤ i) : readA k ns xs (r.drop i) = .ok (ns, xs) := by
  rw [List.drop_of_length_le h]; cases k <;> rfl
theorem readA_name {k : Nat} {ns : List (List UInt8)} {xs : List Int} {r : List (List UInt8)} {i : Nat} (h : i < r.length) (hn : name r[i] = true) : readA (k + 1) ns xs (r.drop i) = readA k (ns ++ [r[i]]) xs (r.drop (i + 1)) := by
  rw [List.drop_eq_getElem_cons h, readA, if_pos hn]
theorem readA_noname {k : Nat} {ns : List (List UInt8)} {xs : List Int} {r : List (List UInt8)} {i : Nat} (h : i < r.length) (hn : name r[i] = false) : readA (k + 1) ns xs (r.drop i) = .error 6 := by
  rw [List.drop_eq_getElem_cons h, readA, if_neg (by simp [hn])]
theorem readA_num {ns : List (List UInt8)} {xs : List Int} {r : List (List UInt8)} {i : Nat} {z : Int} (h : i < r.length) (hn : num r[i] = some z) : readA 0 ns xs (r.drop i) = readA 0 ns (xs ++ [z]) (r.drop (i + 1)) := by
  rw [List.drop_eq_getElem_cons h, readA, hn]
theorem readA_nonum {ns : List (List UInt8)} {xs : List Int} {r : List (List UInt8)} {i : Nat} (h : i < r.length) (hn : num r[i] = none) : readA 0 ns xs (r.drop i) = .error 7 := by
  rw [List.drop_eq_getElem_cons h, readA, hn]
/-- The number of fields behind a word is wrong. -/
def wrongCount (w : Int) (n : Nat) : Bool := decide (n ≠ shapeN w + shapeX w ∧ (w ≠ 2 ∨ n < shapeN w))
/-- A line as a declaration, or its first error. -/
def parse1 (x : LineI) : Except Nat DeclD := match x.2 with
  | [] => .error 20
  | s :: r => if wordOf s = 0 then .error 4 else if wrongCount (wordOf s) r.length = true then .error 5 else
    match readA (r.length - shapeX (wordOf s)) [] [] r with
    | .ok (ns, xs) => .ok ⟨wordOf s, x.1, ns, xs⟩
    | .error e => .error e
theorem count_ge {w : Int} {n : Nat} (h : wrongCount w n = false) : shapeX w ≤ n := by
  unfold wrongCount at h
  simp only [decide_eq_false_iff_not, not_and, not_or, Decidable.not_not] at h
  by_cases e : n = shapeN w + shapeX w
  · omega
  · have := h e
    have h2 := this.1
    subst h2
    simp [shapeX]
/-- All lines; with the first line's number that has an error. -/
def parseA (acc : List DeclD) : List LineI → Except (Int × Nat) (List DeclD)
  | [] => .ok acc
  | x :: r => match parse1 x with
    | .ok d => parseA (acc ++ [d]) r
    | .error e => .error (x.1, e)
def parseT (ls : List LineI) : Except (Int × Nat) (List DeclD) := parseA [] ls
theorem parseA_end {acc : List DeclD} {ls : List LineI} {k : Nat} (h : ls.length ≤ k) : parseA acc (ls.drop k) = .ok acc := by
  rw [List.drop_of_length_le h]; rfl
theorem parseA_ok {acc : List DeclD} {ls : List LineI} {k : Nat} {d : DeclD} (h : k < ls.length) (hd : parse1 ls[k] = .ok d) : parseA acc (ls.drop k) = parseA (acc ++ [d]) (ls.drop (k + 1)) := by
  rw [List.drop_eq_getElem_cons h, parseA, hd]
theorem parseA_err {acc : List DeclD} {ls : List LineI} {k e : Nat} (h : k < ls.length) (hd : parse1 ls[k] = .error e) : parseA acc (ls.drop k) = .error (ls[k].1, e) := by
  rw [List.drop_eq_getElem_cons h, parseA, hd]
theorem readA_errs : ∀ (r : List (List UInt8)) (k : Nat) (ns : List (List UInt8)) (xs : List Int) (e : Nat), readA k ns xs r = .error e → e = 6 ∨ e = 7
  | [], k, _, _, _, h => by cases k <;> cases h
  | s :: r, k + 1, ns, xs, e, h => by
    rw [readA] at h; split at h
    · exact readA_errs r k _ _ e h
    · injection h with h; omega
  | s :: r, 0, ns, xs, e, h => by
    rw [readA] at h; split at h
    · exact readA_errs r 0 _ _ e h
    · injection h with h; omega
theorem parse1_errs {x : LineI} {e : Nat} (h : parse1 x = .error e) : 4 ≤ e ∧ e ≤ 20 := by
  unfold parse1 at h
  split at h
  · injection h with h; omega
  · split at h
    · injection h with h; omega
    · split at h
      · injection h with h; omega
      · split at h
        · cases h
        · rename_i he
          have := readA_errs _ _ _ _ _ he
          injection h with h; omega
/-- Whether Parse can return it. -/
def validD (d : DeclD) : Bool := decide (1 ≤ d.word ∧ d.word ≤ 6) && decide (d.nums.length = shapeX d.word ∧ shapeN d.word ≤ d.names.length ∧ (shapeN d.word < d.names.length → d.word = 2)) && d.names.all name && d.nums.all fun z => decide (-9999 ≤ z ∧ z ≤ 9999)
/-- The line of a declaration. -/
def formatD (d : DeclD) : LineI := (d.line, wordText d.word :: d.names ++ d.nums.map dec)
/-- What Format returns; 20: a declaration is not valid. -/
def formatT (ds : List DeclD) : Except Nat (List LineI) := if ds.all validD then .ok (ds.map formatD) else .error 20
end Go.Proofs.YtpglhidhghhmoaaDoor.Fl
